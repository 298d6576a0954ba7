/- TermSigs: for every two signatures and every term the law returns true and leaves them as they were; its row lists the table of rules of package term, which the card ties to the program's text. -/
import Derived.Test.YtdkenobgfgmepaaDoorCards
import Derived.Test.YtdkenobgfgmepaaDoorTie
import Derived.Test.YtdkenobgfgmepaaDoorZAZ
import Derived.WalkKit
import Derived.ProofKit
import Derived.OpenShut
import Derived.Deep.DeepHandedRow
import Derived.Lib.LaidTab
import Derived.LaidSub
import Derived.ChangeMaps5
import Derived.SizedLaws
import Derived.Carry
set_option linter.unusedVariables false
set_option linter.unusedSimpArgs false

namespace Go.Proofs.YtdkenobgfgmepaaDoor
open Go.ChangeShapes Go.WideShapes Go.ChangeAt Go.RowKit

theorem termSigs_own : ownKnob Tryd.prog.godebug = none := by kernel_rfl
theorem termSigs_out : laidOutB Tryd.prog = true := by kernel_rfl

set_option maxRecDepth 100000 in
theorem termSigs_contract (H : Type) (enc : TypeId × Value → H) (W : World) (base : Nat) (args : Array Value) (ds gs : List (DataW H)) (before : List MemPlace)
    (hval : ∀ (j : Nat) t v, Tryd.f9.params[j]? = some t → args[j]? = some v → Value.okWide Tryd.prog W .any base t v)
    (hW : DataW.Whole enc Tryd.prog Tryd.f9.params.toList Rows.termSigsSpec.vars false W args.toList ds gs before) (hL : laidMetH Tryd.prog Rows.termSigsRow.laid W)
    (hsz0 : (DataW.weightsEach Tryd.prog (Tryd.f9.params.toList ++ (OpenSpec.ofChange Rows.termSigsSpec).bare.plain.varTypes Tryd.prog) (ds ++ gs)).all (· ≤ reachBytes) = true) :
    Calls Tryd.prog 9 args W fun e W' => ∃ v, e = .returned v ∧ Rows.termSigsSpec.post enc Tryd.prog Tryd.f9 false true false false W args v W' := by
  have hsz : (DataW.weightsEach Tryd.prog (Tryd.f9.params.toList ++ (OpenSpec.ofChange Rows.termSigsSpec).bare.plain.varTypes Tryd.prog) (ds ++ gs)).all (· ≤ reachBytes) = true := hsz0
  clear hsz0
  have hW' := hW
  have hRL := rules_met hL
  have hpos : 0 < W.heap.size := by
    have h4 := (hRL 4 (by omega) (by omega)).1
    rcases Nat.eq_zero_or_pos W.heap.size with h | h
    · simp [World.cell?, Array.getElem?_eq_none (show W.heap.size ≤ 0 by omega)] at h4
    · exact h
  obtain ⟨p, q, hA0, hV, rfl, hfz, hnd⟩ := hW
  have hA : DataW.TrodAll enc Tryd.prog W 0 (fun _ => true) true Tryd.f9.params.toList args.toList ds p := hA0
  rw [Tryd.params9] at hA hval hsz
  obtain ⟨v0, vs0, d0, ds0, p0, q0, hargs, rfl, rfl, h0, r0⟩ := trodAll_cons hA
  obtain ⟨v1, vs1, d1, ds1, p1, q1, rfl, rfl, rfl, h1, r1⟩ := trodAll_cons r0
  obtain ⟨v2, vs2, d2, ds2, p2, q2, rfl, rfl, rfl, h2, r2⟩ := trodAll_cons r1
  obtain ⟨rfl, rfl, rfl⟩ := trodAll_nil r2
  obtain rfl : args = #[v0, v1, v2] := by cases args; simp_all
  obtain ⟨rfl, rfl⟩ := trodVars_none hV
  clear hA0 hargs
  simp only [List.append_nil] at hW'
  have hlt := hW'.lt
  have k0 := h0
  obtain ⟨n0, h0⟩ := h0
  have z0 : ∀ m ∈ d0.weights Tryd.prog 22, m ≤ reachBytes := fun n hn => by simpa using List.all_eq_true.1 hsz n (DataW.weights_mem_each (j := 0) (t := 22) rfl rfl n hn)
  have g0 : ∀ W', Below W.heap.size W W' → DataW.Trod enc Tryd.prog W' 0 (fun b => decide (b < W.heap.size)) true 22 v0 d0 p0 := fun W' hn => Below.trod termSigs_out (by kernel_rfl) (of_decide_eq_true (by kernel_rfl)) k0 hn (fun x hx => hlt x (by simp [hx]))
  obtain ⟨A0, L0, C0, rfl⟩ := okWide_slice Tryd.underlying22 (hval 0 22 v0 rfl rfl)
  obtain ⟨a0, c0, x0, ev0, s0⟩ := open_sig h0 z0
  rw [ev0] at g0 hW' ⊢
  have k1 := h1
  obtain ⟨n1, h1⟩ := h1
  have z1 : ∀ m ∈ d1.weights Tryd.prog 22, m ≤ reachBytes := fun n hn => by simpa using List.all_eq_true.1 hsz n (DataW.weights_mem_each (j := 1) (t := 22) rfl rfl n hn)
  have g1 : ∀ W', Below W.heap.size W W' → DataW.Trod enc Tryd.prog W' 0 (fun b => decide (b < W.heap.size)) true 22 v1 d1 p1 := fun W' hn => Below.trod termSigs_out (by kernel_rfl) (of_decide_eq_true (by kernel_rfl)) k1 hn (fun x hx => hlt x (by simp [hx]))
  obtain ⟨A1, L1, C1, rfl⟩ := okWide_slice Tryd.underlying22 (hval 1 22 v1 rfl rfl)
  obtain ⟨a1, c1, x1, ev1, s1⟩ := open_sig h1 z1
  rw [ev1] at g1 hW' ⊢
  have k2 := h2
  obtain ⟨n2, h2⟩ := h2
  have z2 : ∀ m ∈ d2.weights Tryd.prog 26, m ≤ reachBytes := fun n hn => by simpa using List.all_eq_true.1 hsz n (DataW.weights_mem_each (j := 2) (t := 26) rfl rfl n hn)
  have g2 : ∀ W', Below W.heap.size W W' → DataW.Trod enc Tryd.prog W' 0 (fun b => decide (b < W.heap.size)) true 26 v2 d2 p2 := fun W' hn => Below.trod termSigs_out (by kernel_rfl) (of_decide_eq_true (by kernel_rfl)) k2 hn (fun x hx => hlt x (by simp [hx]))
  obtain ⟨y2, e2⟩ : ∃ l : List Value, v2 = .agg l.toArray ∧ l.length = 7 ∧ DataW.trod enc Tryd.prog W 0 (fun _ => true) true n2 26 l = some (d2, p2) := agg_of (hval 2 26 v2 rfl rfl) h2
  obtain ⟨rfl, l2, h2⟩ := e2
  obtain ⟨x2, s2, b2⟩ := open_term n2 y2 _ h2 l2 z2
  refine (sigs_walk s0 rfl s1 rfl s2 b2 hRL hpos).mono fun e W' ⟨he, hnx⟩ => ?_
  subst he
  refine ⟨_, rfl, _, _, _, [], p0 ++ (p1 ++ (p2 ++ ([]))), [], hW', ?_, ?_, rfl, hnx.frame _, fun h => by cases h⟩
  · exact trodAll_cons_mk (shut_bool Tryd.underlying4 _) trodAll_mk0
  · exact trodAll_cons_mk (g0 W' hnx) (trodAll_cons_mk (g1 W' hnx) (trodAll_cons_mk (g2 W' hnx) trodAll_mk0))

def termSigs_put (cs : Array Value) : Obj → Obj
  | .cells _ t frozen => .cells cs t frozen
  | o => o
theorem termSigs_met (os : Os) : laidMet Tryd.prog Rows.termSigsRow.laid (({ World.holding Tryd.prog os ⟨#[], #[], []⟩ with heap := (World.holding Tryd.prog os ⟨#[], #[], []⟩).heap.modify 0 (termSigs_put #[.string ⟨#[]⟩, .int .i64 0, .int .i64 0, .int .i64 0, .string ⟨#[]⟩, .int .i64 0, .int .i64 0, .int .i64 0, .string ⟨#[]⟩, .int .i64 0, .int .i64 0, .int .i64 0, .string ⟨#[]⟩, .int .i64 0, .int .i64 0, .int .i64 0, .string ⟨#[110, 111, 116]⟩, .int .i64 1, .int .i64 2, .int .i64 2, .string ⟨#[97, 110, 100]⟩, .int .i64 (-1), .int .i64 2, .int .i64 2, .string ⟨#[111, 114]⟩, .int .i64 (-1), .int .i64 2, .int .i64 2, .string ⟨#[61, 62]⟩, .int .i64 2, .int .i64 2, .int .i64 2, .string ⟨#[105, 102, 102]⟩, .int .i64 2, .int .i64 2, .int .i64 2, .string ⟨#[61]⟩, .int .i64 2, .int .i64 0, .int .i64 2, .string ⟨#[60, 61]⟩, .int .i64 2, .int .i64 1, .int .i64 2, .string ⟨#[60]⟩, .int .i64 2, .int .i64 1, .int .i64 2, .string ⟨#[43]⟩, .int .i64 (-1), .int .i64 1, .int .i64 1, .string ⟨#[45]⟩, .int .i64 2, .int .i64 1, .int .i64 1, .string ⟨#[110, 101, 103]⟩, .int .i64 1, .int .i64 1, .int .i64 1, .string ⟨#[42]⟩, .int .i64 2, .int .i64 1, .int .i64 1, .string ⟨#[105, 116, 101]⟩, .int .i64 3, .int .i64 0, .int .i64 0]) } : World).forCall (fun _ _ => 0) ⟨#[], #[.slice none 0 0, .slice none 0 0, .agg #[.int .i64 0, .string ⟨#[]⟩, .int .i64 0, .string ⟨#[]⟩, .slice none 0 0, .slice none 0 0, .slice none 0 0]], []⟩).memory :=
  laidMet_of_run' 8 (by kernel_rfl) (by kernel_rfl)
theorem termSigs_reads (os : Os) {H : Type} (enc : TypeId × Value → H) : ∃ places, DataW.whole enc Tryd.prog (({ World.holding Tryd.prog os ⟨#[], #[], []⟩ with heap := (World.holding Tryd.prog os ⟨#[], #[], []⟩).heap.modify 0 (termSigs_put #[.string ⟨#[]⟩, .int .i64 0, .int .i64 0, .int .i64 0, .string ⟨#[]⟩, .int .i64 0, .int .i64 0, .int .i64 0, .string ⟨#[]⟩, .int .i64 0, .int .i64 0, .int .i64 0, .string ⟨#[]⟩, .int .i64 0, .int .i64 0, .int .i64 0, .string ⟨#[110, 111, 116]⟩, .int .i64 1, .int .i64 2, .int .i64 2, .string ⟨#[97, 110, 100]⟩, .int .i64 (-1), .int .i64 2, .int .i64 2, .string ⟨#[111, 114]⟩, .int .i64 (-1), .int .i64 2, .int .i64 2, .string ⟨#[61, 62]⟩, .int .i64 2, .int .i64 2, .int .i64 2, .string ⟨#[105, 102, 102]⟩, .int .i64 2, .int .i64 2, .int .i64 2, .string ⟨#[61]⟩, .int .i64 2, .int .i64 0, .int .i64 2, .string ⟨#[60, 61]⟩, .int .i64 2, .int .i64 1, .int .i64 2, .string ⟨#[60]⟩, .int .i64 2, .int .i64 1, .int .i64 2, .string ⟨#[43]⟩, .int .i64 (-1), .int .i64 1, .int .i64 1, .string ⟨#[45]⟩, .int .i64 2, .int .i64 1, .int .i64 1, .string ⟨#[110, 101, 103]⟩, .int .i64 1, .int .i64 1, .int .i64 1, .string ⟨#[42]⟩, .int .i64 2, .int .i64 1, .int .i64 1, .string ⟨#[105, 116, 101]⟩, .int .i64 3, .int .i64 0, .int .i64 0]) } : World).forCall (fun _ _ => 0) ⟨#[], #[.slice none 0 0, .slice none 0 0, .agg #[.int .i64 0, .string ⟨#[]⟩, .int .i64 0, .string ⟨#[]⟩, .slice none 0 0, .slice none 0 0, .slice none 0 0]], []⟩).memory Tryd.f9.params.toList Rows.termSigsSpec.vars false (#[.slice none 0 0, .slice none 0 0, .agg #[.int .i64 0, .string ⟨#[]⟩, .int .i64 0, .string ⟨#[]⟩, .slice none 0 0, .slice none 0 0, .slice none 0 0]] : Array Value).toList 8 = some ([.nil, .nil, .agg [.lit (.int .i64 0), .lit (.string []), .lit (.int .i64 0), .lit (.string []), .nil, .nil, .nil]], [], places) :=
  ⟨[], by kernel_rfl⟩

set_option maxRecDepth 100000 in
theorem termSigs_lifted (os : Os) (started : os.Started) (H : Type) (enc : TypeId × Value → H) (F : Stop.Interp) :
    ReturnsInHanded {} Tryd.checked os 9 .any ((OpenSpec.ofChange Rows.termSigsSpec).preRow enc Tryd.prog Tryd.f9 Rows.termSigsRow.domain false Rows.termSigsRow.laid) (((OpenSpec.ofChange Rows.termSigsSpec).at F).post enc Tryd.prog Tryd.f9 false true false false) := by
  obtain ⟨places, hx⟩ := termSigs_reads os enc
  refine returnsInHanded_of_row (C := Tryd.checked) (s := OpenSpec.ofChange Rows.termSigsSpec) termSigs_own started (by kernel_rfl) Tryd.func9
    (witness_row_at (enc := enc) (C := Tryd.checked) false ({ World.holding Tryd.prog os ⟨#[], #[], []⟩ with heap := (World.holding Tryd.prog os ⟨#[], #[], []⟩).heap.modify 0 (termSigs_put #[.string ⟨#[]⟩, .int .i64 0, .int .i64 0, .int .i64 0, .string ⟨#[]⟩, .int .i64 0, .int .i64 0, .int .i64 0, .string ⟨#[]⟩, .int .i64 0, .int .i64 0, .int .i64 0, .string ⟨#[]⟩, .int .i64 0, .int .i64 0, .int .i64 0, .string ⟨#[110, 111, 116]⟩, .int .i64 1, .int .i64 2, .int .i64 2, .string ⟨#[97, 110, 100]⟩, .int .i64 (-1), .int .i64 2, .int .i64 2, .string ⟨#[111, 114]⟩, .int .i64 (-1), .int .i64 2, .int .i64 2, .string ⟨#[61, 62]⟩, .int .i64 2, .int .i64 2, .int .i64 2, .string ⟨#[105, 102, 102]⟩, .int .i64 2, .int .i64 2, .int .i64 2, .string ⟨#[61]⟩, .int .i64 2, .int .i64 0, .int .i64 2, .string ⟨#[60, 61]⟩, .int .i64 2, .int .i64 1, .int .i64 2, .string ⟨#[60]⟩, .int .i64 2, .int .i64 1, .int .i64 2, .string ⟨#[43]⟩, .int .i64 (-1), .int .i64 1, .int .i64 1, .string ⟨#[45]⟩, .int .i64 2, .int .i64 1, .int .i64 1, .string ⟨#[110, 101, 103]⟩, .int .i64 1, .int .i64 1, .int .i64 1, .string ⟨#[42]⟩, .int .i64 2, .int .i64 1, .int .i64 1, .string ⟨#[105, 116, 101]⟩, .int .i64 3, .int .i64 0, .int .i64 0]) } : World) #[.slice none 0 0, .slice none 0 0, .agg #[.int .i64 0, .string ⟨#[]⟩, .int .i64 0, .string ⟨#[]⟩, .slice none 0 0, .slice none 0 0, .slice none 0 0]] rfl (by kernel_rfl) (by kernel_rfl) (by kernel_rfl)
      (OpenSpec.preRow_of_cond 8 hx (by kernel_rfl) (fun k hk => by cases hk) (by kernel_rfl) (termSigs_met os))) ?_
  intro W base args ds gs before hval hW _ _ hsz hL _ _
  exact termSigs_contract H enc W base args ds gs before hval hW hL hsz

theorem termSigs_said : Rows.TermSigsSaid :=
  OpenClaim.holds_of_cond 9 Tryd.f9 rfl rfl rfl rfl rfl rfl rfl ⟨rfl, rfl, rfl, rfl, rfl⟩ rfl rfl rfl rfl rfl (by kernel_rfl) Tryd.func9 (by kernel_rfl)
    (of_decide_eq_true (by kernel_rfl)) (by unfold Func.isWrapper; first | (rw [if_pos (by decide +kernel)]; kernel_rfl) | (rw [if_neg (by decide +kernel)]; exact ⟨rfl, rfl⟩))
    (fun os started H enc _ F => by rw [OpenClaim.pre_eq_preRow]; exact termSigs_lifted os started H enc F)

theorem termSigs_plain (f : FuncId) (fn : Func) (hf : Tryd.pinned.checked.prog.funcNamed "avow/avowlaw3.TermSigs" = some f) (hfn : Tryd.pinned.checked.prog.funcs[f]? = some fn) :
    true = Tryd.pinned.checked.prog.looks [] ∧ ∀ (j : Nat) t, fn.params[j]? = some t → Tryd.pinned.checked.prog.wantsStandIn t = false := by
  obtain rfl : f = 9 := Option.some.inj ((show Tryd.prog.funcNamed "avow/avowlaw3.TermSigs" = some 9 by kernel_rfl).symm.trans hf) |>.symm
  obtain rfl : fn = Tryd.f9 := (Option.some.inj (Tryd.func9.symm.trans hfn)).symm
  refine ⟨by kernel_rfl, fun j t ht => ?_⟩
  rw [Tryd.params9] at ht
  have hm : t = 22 ∨ t = 26 := by
    have := Array.mem_of_getElem? ht
    simpa using this
  rcases hm with rfl | rfl
  · exact (show Tryd.prog.wantsStandIn 22 = false by kernel_rfl)
  · exact (show Tryd.prog.wantsStandIn 26 = false by kernel_rfl)

theorem termSigs_holds : Rows.TermSigsCardSaid :=
  Claim7.holds_tied_plain_at .later [] _ _ _ _ termSigs_said (fun _ h => by cases h) (by kernel_rfl) (fun _ h => by cases h) termSigs_row_tie rfl ⟨rfl, rfl⟩ (by kernel_rfl) rfl termSigs_plain (by kernel_rfl)

end Go.Proofs.YtdkenobgfgmepaaDoor
