/- TermLimits: for every two ints the law returns true; its row lists the table of rules of package term, which the card ties to the program's text. -/
import Derived.Test.YtiockiilenjjaaaDoorCards
import Derived.Test.YtiockiilenjjaaaDoorTie
import Derived.Test.YtiockiilenjjaaaDoorZAV
import Derived.Test.YtiockiilenjjaaaDoorZAW
import Derived.WalkKit
import Derived.ProofKit
import Derived.OpenShut
import Derived.Deep.DeepHandedRow
import Derived.Lib.LaidTab
import Derived.LaidSub
import Derived.ChangeMaps5
set_option linter.unusedVariables false
set_option linter.unusedSimpArgs false

namespace Go.Proofs.YtiockiilenjjaaaDoor
open Go.ChangeShapes Go.WideShapes Go.ChangeAt Go.RowKit
open Go.ChangeMaps (open_string shut_string)

theorem termLimits_own : ownKnob Tryd.prog.godebug = none := by kernel_rfl

set_option maxRecDepth 100000 in
theorem termLimits_contract (H : Type) (enc : TypeId × Value → H) (W : World) (base : Nat) (args : Array Value) (ds gs : List (DataW H)) (before : List MemPlace)
    (hval : ∀ (j : Nat) t v, Tryd.f8.params[j]? = some t → args[j]? = some v → Value.okWide Tryd.prog W .any base t v)
    (hW : DataW.Whole enc Tryd.prog Tryd.f8.params.toList Rows.termLimitsSpec.vars false W args.toList ds gs before) (hL : laidMetH Tryd.prog Rows.termLimitsRow.laid W) :
    Calls Tryd.prog 8 args W fun e W' => ∃ v, e = .returned v ∧ Rows.termLimitsSpec.post enc Tryd.prog Tryd.f8 false true false false W args v W' := by
  have hW' := hW
  have hRL := rules_met hL
  have hpos : 0 < W.heap.size := by
    have h4 := (hRL 4 (by omega) (by omega)).1
    rcases Nat.eq_zero_or_pos W.heap.size with h | h
    · simp [World.cell?, Array.getElem?_eq_none (show W.heap.size ≤ 0 by omega)] at h4
    · exact h
  obtain ⟨p, q, hA0, hV, rfl, hfz, hnd⟩ := hW
  have hA : DataW.TrodAll enc Tryd.prog W 0 (fun _ => true) true Tryd.f8.params.toList args.toList ds p := hA0
  rw [Tryd.params8] at hA hval
  obtain ⟨v0, vs0, d0, ds0, p0, q0, hargs, rfl, rfl, h0, r0⟩ := trodAll_cons hA
  obtain ⟨v1, vs1, d1, ds1, p1, q1, rfl, rfl, rfl, h1, r1⟩ := trodAll_cons r0
  obtain ⟨rfl, rfl, rfl⟩ := trodAll_nil r1
  obtain rfl : args = #[v0, v1] := by cases args; simp_all
  obtain ⟨rfl, rfl⟩ := trodVars_none hV
  obtain ⟨k0, rfl, rfl, rfl, w0⟩ := open_int Tryd.underlying3 (hval 0 3 v0 rfl rfl) h0
  obtain ⟨k1, rfl, rfl, rfl, w1⟩ := open_int Tryd.underlying3 (hval 1 3 v1 rfl rfl) h1
  clear hA0 hargs
  simp only [List.append_nil] at hW'
  have m0 : -9223372036854775808 ≤ k0 ∧ k0 ≤ 9223372036854775807 := by
    have w2 := w0
    simp [Lit.wf] at w2
    have e1 : IntKind.i64.min = -9223372036854775808 := by decide
    have e2 : IntKind.i64.max = 9223372036854775807 := by decide
    omega
  have m1 : -9223372036854775808 ≤ k1 ∧ k1 ≤ 9223372036854775807 := by
    have w2 := w1
    simp [Lit.wf] at w2
    have e1 : IntKind.i64.min = -9223372036854775808 := by decide
    have e2 : IntKind.i64.max = 9223372036854775807 := by decide
    omega
  refine (limits_walk k0 k1 W hRL hpos).mono fun e W' ⟨he, hnx⟩ => ?_
  subst he
  refine ⟨_, rfl, _, _, _, [], [], [], hW', ?_, ?_, rfl, hnx.frame _, fun h => by cases h⟩
  · exact trodAll_cons_mk (shut_bool Tryd.underlying4 _) trodAll_mk0
  · exact trodAll_cons_mk (shut_int Tryd.underlying3 w0) (trodAll_cons_mk (shut_int Tryd.underlying3 w1) trodAll_mk0)

def termLimits_put (cs : Array Value) : Obj → Obj
  | .cells _ t frozen => .cells cs t frozen
  | o => o
theorem termLimits_met (os : Os) : laidMet Tryd.prog Rows.termLimitsRow.laid (({ World.holding Tryd.prog os ⟨#[], #[], []⟩ with heap := (World.holding Tryd.prog os ⟨#[], #[], []⟩).heap.modify 0 (termLimits_put #[.string ⟨#[]⟩, .int .i64 0, .int .i64 0, .int .i64 0, .string ⟨#[]⟩, .int .i64 0, .int .i64 0, .int .i64 0, .string ⟨#[]⟩, .int .i64 0, .int .i64 0, .int .i64 0, .string ⟨#[]⟩, .int .i64 0, .int .i64 0, .int .i64 0, .string ⟨#[110, 111, 116]⟩, .int .i64 1, .int .i64 2, .int .i64 2, .string ⟨#[97, 110, 100]⟩, .int .i64 (-1), .int .i64 2, .int .i64 2, .string ⟨#[111, 114]⟩, .int .i64 (-1), .int .i64 2, .int .i64 2, .string ⟨#[61, 62]⟩, .int .i64 2, .int .i64 2, .int .i64 2, .string ⟨#[105, 102, 102]⟩, .int .i64 2, .int .i64 2, .int .i64 2, .string ⟨#[61]⟩, .int .i64 2, .int .i64 0, .int .i64 2, .string ⟨#[60, 61]⟩, .int .i64 2, .int .i64 1, .int .i64 2, .string ⟨#[60]⟩, .int .i64 2, .int .i64 1, .int .i64 2, .string ⟨#[43]⟩, .int .i64 (-1), .int .i64 1, .int .i64 1, .string ⟨#[45]⟩, .int .i64 2, .int .i64 1, .int .i64 1, .string ⟨#[110, 101, 103]⟩, .int .i64 1, .int .i64 1, .int .i64 1, .string ⟨#[42]⟩, .int .i64 2, .int .i64 1, .int .i64 1, .string ⟨#[105, 116, 101]⟩, .int .i64 3, .int .i64 0, .int .i64 0]) } : World).forCall (fun _ _ => 0) ⟨#[], #[.int .i64 0, .int .i64 0], []⟩).memory :=
  laidMet_of_run' 8 (by kernel_rfl) (by kernel_rfl)
theorem termLimits_reads (os : Os) {H : Type} (enc : TypeId × Value → H) : ∃ places, DataW.whole enc Tryd.prog (({ World.holding Tryd.prog os ⟨#[], #[], []⟩ with heap := (World.holding Tryd.prog os ⟨#[], #[], []⟩).heap.modify 0 (termLimits_put #[.string ⟨#[]⟩, .int .i64 0, .int .i64 0, .int .i64 0, .string ⟨#[]⟩, .int .i64 0, .int .i64 0, .int .i64 0, .string ⟨#[]⟩, .int .i64 0, .int .i64 0, .int .i64 0, .string ⟨#[]⟩, .int .i64 0, .int .i64 0, .int .i64 0, .string ⟨#[110, 111, 116]⟩, .int .i64 1, .int .i64 2, .int .i64 2, .string ⟨#[97, 110, 100]⟩, .int .i64 (-1), .int .i64 2, .int .i64 2, .string ⟨#[111, 114]⟩, .int .i64 (-1), .int .i64 2, .int .i64 2, .string ⟨#[61, 62]⟩, .int .i64 2, .int .i64 2, .int .i64 2, .string ⟨#[105, 102, 102]⟩, .int .i64 2, .int .i64 2, .int .i64 2, .string ⟨#[61]⟩, .int .i64 2, .int .i64 0, .int .i64 2, .string ⟨#[60, 61]⟩, .int .i64 2, .int .i64 1, .int .i64 2, .string ⟨#[60]⟩, .int .i64 2, .int .i64 1, .int .i64 2, .string ⟨#[43]⟩, .int .i64 (-1), .int .i64 1, .int .i64 1, .string ⟨#[45]⟩, .int .i64 2, .int .i64 1, .int .i64 1, .string ⟨#[110, 101, 103]⟩, .int .i64 1, .int .i64 1, .int .i64 1, .string ⟨#[42]⟩, .int .i64 2, .int .i64 1, .int .i64 1, .string ⟨#[105, 116, 101]⟩, .int .i64 3, .int .i64 0, .int .i64 0]) } : World).forCall (fun _ _ => 0) ⟨#[], #[.int .i64 0, .int .i64 0], []⟩).memory Tryd.f8.params.toList Rows.termLimitsSpec.vars false #[Value.int .i64 0, Value.int .i64 0].toList 8 = some ([.lit (.int .i64 0), .lit (.int .i64 0)], [], places) :=
  ⟨[], by kernel_rfl⟩

set_option maxRecDepth 100000 in
theorem termLimits_lifted (os : Os) (started : os.Started) (H : Type) (enc : TypeId × Value → H) (F : Stop.Interp) :
    ReturnsInHanded {} Tryd.checked os 8 .any ((OpenSpec.ofChange Rows.termLimitsSpec).preRow enc Tryd.prog Tryd.f8 Rows.termLimitsRow.domain false Rows.termLimitsRow.laid) (((OpenSpec.ofChange Rows.termLimitsSpec).at F).post enc Tryd.prog Tryd.f8 false true false false) := by
  obtain ⟨places, hx⟩ := termLimits_reads os enc
  refine returnsInHanded_of_row (C := Tryd.checked) (s := OpenSpec.ofChange Rows.termLimitsSpec) termLimits_own started (by kernel_rfl) Tryd.func8
    (witness_row_at (enc := enc) (C := Tryd.checked) false ({ World.holding Tryd.prog os ⟨#[], #[], []⟩ with heap := (World.holding Tryd.prog os ⟨#[], #[], []⟩).heap.modify 0 (termLimits_put #[.string ⟨#[]⟩, .int .i64 0, .int .i64 0, .int .i64 0, .string ⟨#[]⟩, .int .i64 0, .int .i64 0, .int .i64 0, .string ⟨#[]⟩, .int .i64 0, .int .i64 0, .int .i64 0, .string ⟨#[]⟩, .int .i64 0, .int .i64 0, .int .i64 0, .string ⟨#[110, 111, 116]⟩, .int .i64 1, .int .i64 2, .int .i64 2, .string ⟨#[97, 110, 100]⟩, .int .i64 (-1), .int .i64 2, .int .i64 2, .string ⟨#[111, 114]⟩, .int .i64 (-1), .int .i64 2, .int .i64 2, .string ⟨#[61, 62]⟩, .int .i64 2, .int .i64 2, .int .i64 2, .string ⟨#[105, 102, 102]⟩, .int .i64 2, .int .i64 2, .int .i64 2, .string ⟨#[61]⟩, .int .i64 2, .int .i64 0, .int .i64 2, .string ⟨#[60, 61]⟩, .int .i64 2, .int .i64 1, .int .i64 2, .string ⟨#[60]⟩, .int .i64 2, .int .i64 1, .int .i64 2, .string ⟨#[43]⟩, .int .i64 (-1), .int .i64 1, .int .i64 1, .string ⟨#[45]⟩, .int .i64 2, .int .i64 1, .int .i64 1, .string ⟨#[110, 101, 103]⟩, .int .i64 1, .int .i64 1, .int .i64 1, .string ⟨#[42]⟩, .int .i64 2, .int .i64 1, .int .i64 1, .string ⟨#[105, 116, 101]⟩, .int .i64 3, .int .i64 0, .int .i64 0]) } : World) #[.int .i64 0, .int .i64 0] rfl (by kernel_rfl) (by kernel_rfl) (by kernel_rfl)
      (OpenSpec.preRow_of_cond 8 hx (by kernel_rfl) (fun k hk => by cases hk) (by kernel_rfl) (termLimits_met os))) ?_
  intro W base args ds gs before hval hW _ _ _ hL _ _
  exact termLimits_contract H enc W base args ds gs before hval hW hL

theorem termLimits_said : Rows.TermLimitsSaid :=
  OpenClaim.holds_of_cond 8 Tryd.f8 rfl rfl rfl rfl rfl rfl rfl ⟨rfl, rfl, rfl, rfl, rfl⟩ rfl rfl rfl rfl rfl (by kernel_rfl) Tryd.func8 (by kernel_rfl)
    (of_decide_eq_true (by kernel_rfl)) (by unfold Func.isWrapper; first | (rw [if_pos (by decide +kernel)]; kernel_rfl) | (rw [if_neg (by decide +kernel)]; exact ⟨rfl, rfl⟩))
    (fun os started H enc _ F => by rw [OpenClaim.pre_eq_preRow]; exact termLimits_lifted os started H enc F)

theorem termLimits_plain (f : FuncId) (fn : Func) (hf : Tryd.pinned.checked.prog.funcNamed "avow/avowlaw3.TermLimits" = some f) (hfn : Tryd.pinned.checked.prog.funcs[f]? = some fn) :
    true = Tryd.pinned.checked.prog.looks [] ∧ ∀ (j : Nat) t, fn.params[j]? = some t → Tryd.pinned.checked.prog.wantsStandIn t = false := by
  obtain rfl : f = 8 := Option.some.inj ((show Tryd.prog.funcNamed "avow/avowlaw3.TermLimits" = some 8 by kernel_rfl).symm.trans hf) |>.symm
  obtain rfl : fn = Tryd.f8 := (Option.some.inj (Tryd.func8.symm.trans hfn)).symm
  refine ⟨by kernel_rfl, fun j t ht => ?_⟩
  rw [Tryd.params8] at ht
  have hm : t = 3 := by simpa using Array.mem_of_getElem? ht
  subst hm
  exact (show Tryd.prog.wantsStandIn 3 = false by kernel_rfl)

theorem termLimits_holds : Rows.TermLimitsCardSaid :=
  Claim7.holds_tied_plain_at .later [] _ _ _ _ termLimits_said (fun _ h => by cases h) (by kernel_rfl) (fun _ h => by cases h) termLimits_row_tie rfl ⟨rfl, rfl⟩ (by kernel_rfl) rfl termLimits_plain (by kernel_rfl)

end Go.Proofs.YtiockiilenjjaaaDoor
