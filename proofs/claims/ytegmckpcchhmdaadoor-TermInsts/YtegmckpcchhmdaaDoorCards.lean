/-
  DERIVED. GIVEN WITH THE SEED: THE CARDS: each row of YtegmckpcchhmdaaDoorRows.lean that lists a variable, with what it lists TIED to the program's text (the seventh form; the later family's looks); each row that meets fmt, with fmt's text TOLD by the authors' own Lean function (tested against real Go, not proved from fmt's source: count such statements apart). THE CARD IS WHAT COUNTS. Prove the row's statement (the work); the ties are given (YtegmckpcchhmdaaDoorTie.lean); close each card by the builder's one call (the guide's Derived/Test/ToyasCard.lean, 'card_holds'). Laid BY PROGRAM, IN A SANDBOX (cutbox-door.mjs). By AI agents, Wed Nov 11 2026. No macro, syntax, notation, axiom, sorry.
-/
import Derived.Test.YtegmckpcchhmdaaDoorRows
import GoSem.ClaimSeven
namespace Go.Proofs.YtegmckpcchhmdaaDoor
namespace Rows

/-- THE TIED CARD OF 'avowlaw3.TermInsts'. -/
def termInstsCard : Claim7 := { stood := { row := termInstsRow, standIns := [], harness := (true, "9b91872b52c627ed19d38a4646e8f306aba1f3a4aab8d12b7b19731e472e4bc0"), looks := true }, kinds := [], alts := [], laidByText := true, laidKinds := [.data], laidTests := true, laidLooks := .later }
def TermInstsCardSaid : Prop := Claim7.holds Tryd.pinned (.plain (OpenSpec.ofChange termInstsSpec)) termInstsCard

/-- THE SECOND FORM's CARD OF 'avowlaw3.TermInsts'. -/
def termInstsUptoCard : Claim7 := { stood := { row := termInstsUptoRow, standIns := [], harness := (true, "9b91872b52c627ed19d38a4646e8f306aba1f3a4aab8d12b7b19731e472e4bc0"), looks := true }, kinds := [], alts := [], laidByText := true, laidKinds := [.data], laidTests := true, laidLooks := .later }
def TermInstsUptoCardSaid : Prop := Claim7.holds Tryd.pinned (.plain (OpenSpec.upto termInstsSpec)) termInstsUptoCard
end Rows
end Go.Proofs.YtegmckpcchhmdaaDoor
