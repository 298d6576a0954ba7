/- TermInsts: for every term and every list of terms the law returns true and leaves them as they were; its row lists the table of rules of package term, which the card ties to the program's text. -/
import Derived.Test.YtegmckpcchhmdaaDoorCards
import Derived.Test.YtegmckpcchhmdaaDoorTie
import Derived.Test.YtegmckpcchhmdaaDoorZAZ
import Derived.WalkKit
import Derived.ProofKit
import Derived.OpenShut
import Derived.Deep.DeepHandedRow
import Derived.Lib.LaidTab
import Derived.LaidSub
import Derived.ChangeMaps5
import Derived.SizedLaws
import Derived.Carry
set_option linter.unusedVariables false
set_option linter.unusedSimpArgs false

namespace Go.Proofs.YtegmckpcchhmdaaDoor
open Go.ChangeShapes Go.WideShapes Go.ChangeAt Go.RowKit

theorem termInsts_own : ownKnob Tryd.prog.godebug = none := by kernel_rfl
theorem termInsts_out : laidOutB Tryd.prog = true := by kernel_rfl

set_option maxRecDepth 100000 in
theorem termInsts_contract (H : Type) (enc : TypeId × Value → H) (W : World) (base : Nat) (args : Array Value) (ds gs : List (DataW H)) (before : List MemPlace)
    (hval : ∀ (j : Nat) t v, Tryd.f3.params[j]? = some t → args[j]? = some v → Value.okWide Tryd.prog W .any base t v)
    (hW : DataW.Whole enc Tryd.prog Tryd.f3.params.toList Rows.termInstsSpec.vars false W args.toList ds gs before) (hL : laidMetH Tryd.prog Rows.termInstsRow.laid W)
    (hsz0 : (DataW.weightsEach Tryd.prog (Tryd.f3.params.toList ++ (OpenSpec.ofChange Rows.termInstsSpec).bare.plain.varTypes Tryd.prog) (ds ++ gs)).all (· ≤ reachBytes) = true) :
    Calls Tryd.prog 3 args W fun e W' => ∃ v, e = .returned v ∧ Rows.termInstsSpec.post enc Tryd.prog Tryd.f3 false true false false W args v W' := by
  have hsz : (DataW.weightsEach Tryd.prog (Tryd.f3.params.toList ++ (OpenSpec.ofChange Rows.termInstsSpec).bare.plain.varTypes Tryd.prog) (ds ++ gs)).all (· ≤ reachBytes) = true := hsz0
  clear hsz0
  have hW' := hW
  have hRL := rules_met hL
  have hpos : 0 < W.heap.size := by
    have h4 := (hRL 4 (by omega) (by omega)).1
    rcases Nat.eq_zero_or_pos W.heap.size with h | h
    · simp [World.cell?, Array.getElem?_eq_none (show W.heap.size ≤ 0 by omega)] at h4
    · exact h
  obtain ⟨p, q, hA0, hV, rfl, hfz, hnd⟩ := hW
  have hA : DataW.TrodAll enc Tryd.prog W 0 (fun _ => true) true Tryd.f3.params.toList args.toList ds p := hA0
  rw [Tryd.params3] at hA hval hsz
  obtain ⟨v0, vs0, d0, ds0, p0, q0, hargs, rfl, rfl, h0, r0⟩ := trodAll_cons hA
  obtain ⟨v1, vs1, d1, ds1, p1, q1, rfl, rfl, rfl, h1, r1⟩ := trodAll_cons r0
  obtain ⟨rfl, rfl, rfl⟩ := trodAll_nil r1
  obtain rfl : args = #[v0, v1] := by cases args; simp_all
  obtain ⟨rfl, rfl⟩ := trodVars_none hV
  clear hA0 hargs
  simp only [List.append_nil] at hW'
  have hlt := hW'.lt
  have k0 := h0
  obtain ⟨n0, h0⟩ := h0
  have z0 : ∀ m ∈ d0.weights Tryd.prog 25, m ≤ reachBytes := fun n hn => by simpa using List.all_eq_true.1 hsz n (DataW.weights_mem_each (j := 0) (t := 25) rfl rfl n hn)
  have g0 : ∀ W', Below W.heap.size W W' → DataW.Trod enc Tryd.prog W' 0 (fun b => decide (b < W.heap.size)) true 25 v0 d0 p0 := fun W' hn => Below.trod termInsts_out (by kernel_rfl) (of_decide_eq_true (by kernel_rfl)) k0 hn (fun x hx => hlt x (by simp [hx]))
  obtain ⟨y0, e0⟩ : ∃ l : List Value, v0 = .agg l.toArray ∧ l.length = 7 ∧ DataW.trod enc Tryd.prog W 0 (fun _ => true) true n0 25 l = some (d0, p0) := agg_of (hval 0 25 v0 rfl rfl) h0
  obtain ⟨rfl, l0, h0⟩ := e0
  obtain ⟨x0, s0, b0⟩ := open_term n0 y0 _ h0 l0 z0
  have k1 := h1
  obtain ⟨n1, h1⟩ := h1
  have z1 : ∀ m ∈ d1.weights Tryd.prog 22, m ≤ reachBytes := fun n hn => by simpa using List.all_eq_true.1 hsz n (DataW.weights_mem_each (j := 1) (t := 22) rfl rfl n hn)
  have g1 : ∀ W', Below W.heap.size W W' → DataW.Trod enc Tryd.prog W' 0 (fun b => decide (b < W.heap.size)) true 22 v1 d1 p1 := fun W' hn => Below.trod termInsts_out (by kernel_rfl) (of_decide_eq_true (by kernel_rfl)) k1 hn (fun x hx => hlt x (by simp [hx]))
  obtain ⟨A1, L1, C1, rfl⟩ := okWide_slice Tryd.underlying22 (hval 1 22 v1 rfl rfl)
  obtain ⟨a1, c1, x1, ev1, s1, b1⟩ := open_list h1 z1 fun k l y _ hy hl7 hzy => open_term k l y hy hl7 hzy
  rw [ev1] at g1 hW' ⊢
  refine (insts_walk s0 s1 rfl (list_bytes h1 z1 ev1) hRL hpos).mono fun e W' ⟨he, hnx⟩ => ?_
  subst he
  refine ⟨_, rfl, _, _, _, [], p0 ++ (p1 ++ ([])), [], hW', ?_, ?_, rfl, hnx.frame _, fun h => by cases h⟩
  · exact trodAll_cons_mk (shut_bool Tryd.underlying4 _) trodAll_mk0
  · exact trodAll_cons_mk (g0 W' hnx) (trodAll_cons_mk (g1 W' hnx) trodAll_mk0)

def termInsts_put (cs : Array Value) : Obj → Obj
  | .cells _ t frozen => .cells cs t frozen
  | o => o
theorem termInsts_met (os : Os) : laidMet Tryd.prog Rows.termInstsRow.laid (({ World.holding Tryd.prog os ⟨#[], #[], []⟩ with heap := (World.holding Tryd.prog os ⟨#[], #[], []⟩).heap.modify 0 (termInsts_put #[.string ⟨#[]⟩, .int .i64 0, .int .i64 0, .int .i64 0, .string ⟨#[]⟩, .int .i64 0, .int .i64 0, .int .i64 0, .string ⟨#[]⟩, .int .i64 0, .int .i64 0, .int .i64 0, .string ⟨#[]⟩, .int .i64 0, .int .i64 0, .int .i64 0, .string ⟨#[110, 111, 116]⟩, .int .i64 1, .int .i64 2, .int .i64 2, .string ⟨#[97, 110, 100]⟩, .int .i64 (-1), .int .i64 2, .int .i64 2, .string ⟨#[111, 114]⟩, .int .i64 (-1), .int .i64 2, .int .i64 2, .string ⟨#[61, 62]⟩, .int .i64 2, .int .i64 2, .int .i64 2, .string ⟨#[105, 102, 102]⟩, .int .i64 2, .int .i64 2, .int .i64 2, .string ⟨#[61]⟩, .int .i64 2, .int .i64 0, .int .i64 2, .string ⟨#[60, 61]⟩, .int .i64 2, .int .i64 1, .int .i64 2, .string ⟨#[60]⟩, .int .i64 2, .int .i64 1, .int .i64 2, .string ⟨#[43]⟩, .int .i64 (-1), .int .i64 1, .int .i64 1, .string ⟨#[45]⟩, .int .i64 2, .int .i64 1, .int .i64 1, .string ⟨#[110, 101, 103]⟩, .int .i64 1, .int .i64 1, .int .i64 1, .string ⟨#[42]⟩, .int .i64 2, .int .i64 1, .int .i64 1, .string ⟨#[105, 116, 101]⟩, .int .i64 3, .int .i64 0, .int .i64 0]) } : World).forCall (fun _ _ => 0) ⟨#[], #[.agg #[.int .i64 0, .string ⟨#[]⟩, .int .i64 0, .string ⟨#[]⟩, .slice none 0 0, .slice none 0 0, .slice none 0 0], .slice none 0 0], []⟩).memory :=
  laidMet_of_run' 8 (by kernel_rfl) (by kernel_rfl)
theorem termInsts_reads (os : Os) {H : Type} (enc : TypeId × Value → H) : ∃ places, DataW.whole enc Tryd.prog (({ World.holding Tryd.prog os ⟨#[], #[], []⟩ with heap := (World.holding Tryd.prog os ⟨#[], #[], []⟩).heap.modify 0 (termInsts_put #[.string ⟨#[]⟩, .int .i64 0, .int .i64 0, .int .i64 0, .string ⟨#[]⟩, .int .i64 0, .int .i64 0, .int .i64 0, .string ⟨#[]⟩, .int .i64 0, .int .i64 0, .int .i64 0, .string ⟨#[]⟩, .int .i64 0, .int .i64 0, .int .i64 0, .string ⟨#[110, 111, 116]⟩, .int .i64 1, .int .i64 2, .int .i64 2, .string ⟨#[97, 110, 100]⟩, .int .i64 (-1), .int .i64 2, .int .i64 2, .string ⟨#[111, 114]⟩, .int .i64 (-1), .int .i64 2, .int .i64 2, .string ⟨#[61, 62]⟩, .int .i64 2, .int .i64 2, .int .i64 2, .string ⟨#[105, 102, 102]⟩, .int .i64 2, .int .i64 2, .int .i64 2, .string ⟨#[61]⟩, .int .i64 2, .int .i64 0, .int .i64 2, .string ⟨#[60, 61]⟩, .int .i64 2, .int .i64 1, .int .i64 2, .string ⟨#[60]⟩, .int .i64 2, .int .i64 1, .int .i64 2, .string ⟨#[43]⟩, .int .i64 (-1), .int .i64 1, .int .i64 1, .string ⟨#[45]⟩, .int .i64 2, .int .i64 1, .int .i64 1, .string ⟨#[110, 101, 103]⟩, .int .i64 1, .int .i64 1, .int .i64 1, .string ⟨#[42]⟩, .int .i64 2, .int .i64 1, .int .i64 1, .string ⟨#[105, 116, 101]⟩, .int .i64 3, .int .i64 0, .int .i64 0]) } : World).forCall (fun _ _ => 0) ⟨#[], #[.agg #[.int .i64 0, .string ⟨#[]⟩, .int .i64 0, .string ⟨#[]⟩, .slice none 0 0, .slice none 0 0, .slice none 0 0], .slice none 0 0], []⟩).memory Tryd.f3.params.toList Rows.termInstsSpec.vars false (#[.agg #[.int .i64 0, .string ⟨#[]⟩, .int .i64 0, .string ⟨#[]⟩, .slice none 0 0, .slice none 0 0, .slice none 0 0], .slice none 0 0] : Array Value).toList 8 = some ([.agg [.lit (.int .i64 0), .lit (.string []), .lit (.int .i64 0), .lit (.string []), .nil, .nil, .nil], .nil], [], places) :=
  ⟨[], by kernel_rfl⟩

set_option maxRecDepth 100000 in
theorem termInsts_lifted (os : Os) (started : os.Started) (H : Type) (enc : TypeId × Value → H) (F : Stop.Interp) :
    ReturnsInHanded {} Tryd.checked os 3 .any ((OpenSpec.ofChange Rows.termInstsSpec).preRow enc Tryd.prog Tryd.f3 Rows.termInstsRow.domain false Rows.termInstsRow.laid) (((OpenSpec.ofChange Rows.termInstsSpec).at F).post enc Tryd.prog Tryd.f3 false true false false) := by
  obtain ⟨places, hx⟩ := termInsts_reads os enc
  refine returnsInHanded_of_row (C := Tryd.checked) (s := OpenSpec.ofChange Rows.termInstsSpec) termInsts_own started (by kernel_rfl) Tryd.func3
    (witness_row_at (enc := enc) (C := Tryd.checked) false ({ World.holding Tryd.prog os ⟨#[], #[], []⟩ with heap := (World.holding Tryd.prog os ⟨#[], #[], []⟩).heap.modify 0 (termInsts_put #[.string ⟨#[]⟩, .int .i64 0, .int .i64 0, .int .i64 0, .string ⟨#[]⟩, .int .i64 0, .int .i64 0, .int .i64 0, .string ⟨#[]⟩, .int .i64 0, .int .i64 0, .int .i64 0, .string ⟨#[]⟩, .int .i64 0, .int .i64 0, .int .i64 0, .string ⟨#[110, 111, 116]⟩, .int .i64 1, .int .i64 2, .int .i64 2, .string ⟨#[97, 110, 100]⟩, .int .i64 (-1), .int .i64 2, .int .i64 2, .string ⟨#[111, 114]⟩, .int .i64 (-1), .int .i64 2, .int .i64 2, .string ⟨#[61, 62]⟩, .int .i64 2, .int .i64 2, .int .i64 2, .string ⟨#[105, 102, 102]⟩, .int .i64 2, .int .i64 2, .int .i64 2, .string ⟨#[61]⟩, .int .i64 2, .int .i64 0, .int .i64 2, .string ⟨#[60, 61]⟩, .int .i64 2, .int .i64 1, .int .i64 2, .string ⟨#[60]⟩, .int .i64 2, .int .i64 1, .int .i64 2, .string ⟨#[43]⟩, .int .i64 (-1), .int .i64 1, .int .i64 1, .string ⟨#[45]⟩, .int .i64 2, .int .i64 1, .int .i64 1, .string ⟨#[110, 101, 103]⟩, .int .i64 1, .int .i64 1, .int .i64 1, .string ⟨#[42]⟩, .int .i64 2, .int .i64 1, .int .i64 1, .string ⟨#[105, 116, 101]⟩, .int .i64 3, .int .i64 0, .int .i64 0]) } : World) #[.agg #[.int .i64 0, .string ⟨#[]⟩, .int .i64 0, .string ⟨#[]⟩, .slice none 0 0, .slice none 0 0, .slice none 0 0], .slice none 0 0] rfl (by kernel_rfl) (by kernel_rfl) (by kernel_rfl)
      (OpenSpec.preRow_of_cond 8 hx (by kernel_rfl) (fun k hk => by cases hk) (by kernel_rfl) (termInsts_met os))) ?_
  intro W base args ds gs before hval hW _ _ hsz hL _ _
  exact termInsts_contract H enc W base args ds gs before hval hW hL hsz

theorem termInsts_said : Rows.TermInstsSaid :=
  OpenClaim.holds_of_cond 3 Tryd.f3 rfl rfl rfl rfl rfl rfl rfl ⟨rfl, rfl, rfl, rfl, rfl⟩ rfl rfl rfl rfl rfl (by kernel_rfl) Tryd.func3 (by kernel_rfl)
    (of_decide_eq_true (by kernel_rfl)) (by unfold Func.isWrapper; first | (rw [if_pos (by decide +kernel)]; kernel_rfl) | (rw [if_neg (by decide +kernel)]; exact ⟨rfl, rfl⟩))
    (fun os started H enc _ F => by rw [OpenClaim.pre_eq_preRow]; exact termInsts_lifted os started H enc F)

theorem termInsts_plain (f : FuncId) (fn : Func) (hf : Tryd.pinned.checked.prog.funcNamed "avow/avowlaw3.TermInsts" = some f) (hfn : Tryd.pinned.checked.prog.funcs[f]? = some fn) :
    true = Tryd.pinned.checked.prog.looks [] ∧ ∀ (j : Nat) t, fn.params[j]? = some t → Tryd.pinned.checked.prog.wantsStandIn t = false := by
  obtain rfl : f = 3 := Option.some.inj ((show Tryd.prog.funcNamed "avow/avowlaw3.TermInsts" = some 3 by kernel_rfl).symm.trans hf) |>.symm
  obtain rfl : fn = Tryd.f3 := (Option.some.inj (Tryd.func3.symm.trans hfn)).symm
  refine ⟨by kernel_rfl, fun j t ht => ?_⟩
  rw [Tryd.params3] at ht
  have hm : t = 25 ∨ t = 22 := by
    have := Array.mem_of_getElem? ht
    simpa using this
  rcases hm with rfl | rfl
  · exact (show Tryd.prog.wantsStandIn 25 = false by kernel_rfl)
  · exact (show Tryd.prog.wantsStandIn 22 = false by kernel_rfl)

theorem termInsts_holds : Rows.TermInstsCardSaid :=
  Claim7.holds_tied_plain_at .later [] _ _ _ _ termInsts_said (fun _ h => by cases h) (by kernel_rfl) (fun _ h => by cases h) termInsts_row_tie rfl ⟨rfl, rfl⟩ (by kernel_rfl) rfl termInsts_plain (by kernel_rfl)

end Go.Proofs.YtegmckpcchhmdaaDoor
