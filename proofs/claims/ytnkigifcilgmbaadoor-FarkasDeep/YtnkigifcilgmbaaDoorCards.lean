/-
  DERIVED. GIVEN WITH THE SEED: THE CARDS: each row of YtnkigifcilgmbaaDoorRows.lean that lists a variable, with what it lists TIED to the program's text (the seventh form; the later family's looks); each row that meets fmt, with fmt's text TOLD by the authors' own Lean function (tested against real Go, not proved from fmt's source: count such statements apart). THE CARD IS WHAT COUNTS. Prove the row's statement (the work); the ties are given (YtnkigifcilgmbaaDoorTie.lean); close each card by the builder's one call (the guide's Derived/Test/ToyasCard.lean, 'card_holds'). Laid BY PROGRAM, IN A SANDBOX (cutbox-door.mjs). By AI agents, Wed Nov 11 2026. No macro, syntax, notation, axiom, sorry.
-/
import Derived.Test.YtnkigifcilgmbaaDoorRows
import GoSem.ClaimSeven
namespace Go.Proofs.YtnkigifcilgmbaaDoor
namespace Rows

/-- THE TIED CARD OF 'avowlaw10.FarkasDeep'. -/
def farkasDeepCard : Claim7 := { stood := { row := farkasDeepRow, standIns := [], harness := (true, "8a44cc0bfd02fbbd129ab908de3d7b0c599382e35d02e060925653de426e66f2"), looks := false }, kinds := [], alts := [], laidByText := true, laidKinds := [.data, .data, .data], laidTests := true, laidLooks := .later }
def FarkasDeepCardSaid : Prop := Claim7.holds Tryd.pinned (.plain (OpenSpec.ofChange farkasDeepSpec)) farkasDeepCard

/-- THE TIED CARD OF 'avowlaw10.FarkasDigits'. -/
def farkasDigitsCard : Claim7 := { stood := { row := farkasDigitsRow, standIns := [], harness := (true, "8a44cc0bfd02fbbd129ab908de3d7b0c599382e35d02e060925653de426e66f2"), looks := false }, kinds := [], alts := [], laidByText := true, laidKinds := [.data, .data, .data], laidTests := true, laidLooks := .later }
def FarkasDigitsCardSaid : Prop := Claim7.holds Tryd.pinned (.plain (OpenSpec.ofChange farkasDigitsSpec)) farkasDigitsCard

/-- THE SECOND FORM's CARD OF 'avowlaw10.FarkasDeep'. -/
def farkasDeepUptoCard : Claim7 := { stood := { row := farkasDeepUptoRow, standIns := [], harness := (true, "8a44cc0bfd02fbbd129ab908de3d7b0c599382e35d02e060925653de426e66f2"), looks := false }, kinds := [], alts := [], laidByText := true, laidKinds := [.data, .data, .data], laidTests := true, laidLooks := .later }
def FarkasDeepUptoCardSaid : Prop := Claim7.holds Tryd.pinned (.plain (OpenSpec.upto farkasDeepSpec)) farkasDeepUptoCard

/-- THE SECOND FORM's CARD OF 'avowlaw10.FarkasDigits'. -/
def farkasDigitsUptoCard : Claim7 := { stood := { row := farkasDigitsUptoRow, standIns := [], harness := (true, "8a44cc0bfd02fbbd129ab908de3d7b0c599382e35d02e060925653de426e66f2"), looks := false }, kinds := [], alts := [], laidByText := true, laidKinds := [.data, .data, .data], laidTests := true, laidLooks := .later }
def FarkasDigitsUptoCardSaid : Prop := Claim7.holds Tryd.pinned (.plain (OpenSpec.upto farkasDigitsSpec)) farkasDigitsUptoCard
end Rows
end Go.Proofs.YtnkigifcilgmbaaDoor
