/-
  DERIVED. GIVEN WITH THE SEED: THE CARDS: each row of YtnkigifcilgmbaaGreatDoorRows.lean that lists a variable, with what it lists TIED to the program's text (the seventh form; the later family's looks); each row that meets fmt, with fmt's text TOLD by the authors' own Lean function (tested against real Go, not proved from fmt's source: count such statements apart). THE CARD IS WHAT COUNTS. Prove the row's statement (the work); the ties are given (YtnkigifcilgmbaaGreatDoorTie.lean); close each card by the builder's one call (the guide's Derived/Test/ToyasCard.lean, 'card_holds'). Laid BY PROGRAM, IN A SANDBOX (cutbox-door.mjs). By AI agents, Wed Nov 11 2026. No macro, syntax, notation, axiom, sorry.
-/
import Derived.Test.YtnkigifcilgmbaaGreatDoorRows
import GoSem.ClaimSeven
namespace Go.Proofs.YtnkigifcilgmbaaGreatDoor
namespace Rows

/-- THE TIED CARD OF 'avowlaw10.FarkasSums'. -/
def farkasSumsCard : Claim7 := { stood := { row := farkasSumsRow, standIns := [], harness := (true, "9a82845758350d701d91ac3a9c33cfeedc38aa9ac6de1f3b7c034ee41bc8bace"), looks := false }, kinds := [], alts := [], laidByText := true, laidKinds := [.data, .data, .data], laidTests := true, laidLooks := .later }
def FarkasSumsCardSaid : Prop := Claim7.holds Tryz.pinned (.plain (OpenSpec.ofChange farkasSumsSpec)) farkasSumsCard

/-- THE TIED CARD OF 'avowlaw10.FarkasChecks'. -/
def farkasChecksCard : Claim7 := { stood := { row := farkasChecksRow, standIns := [], harness := (true, "9a82845758350d701d91ac3a9c33cfeedc38aa9ac6de1f3b7c034ee41bc8bace"), looks := false }, kinds := [], alts := [], laidByText := true, laidKinds := [.data, .data, .data], laidTests := true, laidLooks := .later }
def FarkasChecksCardSaid : Prop := Claim7.holds Tryz.pinned (.plain (OpenSpec.ofChange farkasChecksSpec)) farkasChecksCard

/-- THE TIED CARD OF 'avowlaw10.FarkasTrue'. -/
def farkasTrueCard : Claim7 := { stood := { row := farkasTrueRow, standIns := [], harness := (true, "9a82845758350d701d91ac3a9c33cfeedc38aa9ac6de1f3b7c034ee41bc8bace"), looks := false }, kinds := [], alts := [], laidByText := true, laidKinds := [.data, .data, .data], laidTests := true, laidLooks := .later }
def FarkasTrueCardSaid : Prop := Claim7.holds Tryz.pinned (.plain (OpenSpec.ofChange farkasTrueSpec)) farkasTrueCard

/-- THE TIED CARD OF 'avowlaw10.FarkasBoxes'. -/
def farkasBoxesCard : Claim7 := { stood := { row := farkasBoxesRow, standIns := [], harness := (true, "9a82845758350d701d91ac3a9c33cfeedc38aa9ac6de1f3b7c034ee41bc8bace"), looks := false }, kinds := [], alts := [], laidByText := true, laidKinds := [.data, .data, .data], laidTests := true, laidLooks := .later }
def FarkasBoxesCardSaid : Prop := Claim7.holds Tryz.pinned (.plain (OpenSpec.ofChange farkasBoxesSpec)) farkasBoxesCard

/-- THE TIED CARD OF 'avowlaw10.FarkasMixes'. -/
def farkasMixesCard : Claim7 := { stood := { row := farkasMixesRow, standIns := [], harness := (true, "9a82845758350d701d91ac3a9c33cfeedc38aa9ac6de1f3b7c034ee41bc8bace"), looks := false }, kinds := [], alts := [], laidByText := true, laidKinds := [.data, .data, .data], laidTests := true, laidLooks := .later }
def FarkasMixesCardSaid : Prop := Claim7.holds Tryz.pinned (.plain (OpenSpec.ofChange farkasMixesSpec)) farkasMixesCard

/-- THE SECOND FORM's CARD OF 'avowlaw10.FarkasSums'. -/
def farkasSumsUptoCard : Claim7 := { stood := { row := farkasSumsUptoRow, standIns := [], harness := (true, "9a82845758350d701d91ac3a9c33cfeedc38aa9ac6de1f3b7c034ee41bc8bace"), looks := false }, kinds := [], alts := [], laidByText := true, laidKinds := [.data, .data, .data], laidTests := true, laidLooks := .later }
def FarkasSumsUptoCardSaid : Prop := Claim7.holds Tryz.pinned (.plain (OpenSpec.upto farkasSumsSpec)) farkasSumsUptoCard

/-- THE SECOND FORM's CARD OF 'avowlaw10.FarkasChecks'. -/
def farkasChecksUptoCard : Claim7 := { stood := { row := farkasChecksUptoRow, standIns := [], harness := (true, "9a82845758350d701d91ac3a9c33cfeedc38aa9ac6de1f3b7c034ee41bc8bace"), looks := false }, kinds := [], alts := [], laidByText := true, laidKinds := [.data, .data, .data], laidTests := true, laidLooks := .later }
def FarkasChecksUptoCardSaid : Prop := Claim7.holds Tryz.pinned (.plain (OpenSpec.upto farkasChecksSpec)) farkasChecksUptoCard

/-- THE SECOND FORM's CARD OF 'avowlaw10.FarkasTrue'. -/
def farkasTrueUptoCard : Claim7 := { stood := { row := farkasTrueUptoRow, standIns := [], harness := (true, "9a82845758350d701d91ac3a9c33cfeedc38aa9ac6de1f3b7c034ee41bc8bace"), looks := false }, kinds := [], alts := [], laidByText := true, laidKinds := [.data, .data, .data], laidTests := true, laidLooks := .later }
def FarkasTrueUptoCardSaid : Prop := Claim7.holds Tryz.pinned (.plain (OpenSpec.upto farkasTrueSpec)) farkasTrueUptoCard

/-- THE SECOND FORM's CARD OF 'avowlaw10.FarkasBoxes'. -/
def farkasBoxesUptoCard : Claim7 := { stood := { row := farkasBoxesUptoRow, standIns := [], harness := (true, "9a82845758350d701d91ac3a9c33cfeedc38aa9ac6de1f3b7c034ee41bc8bace"), looks := false }, kinds := [], alts := [], laidByText := true, laidKinds := [.data, .data, .data], laidTests := true, laidLooks := .later }
def FarkasBoxesUptoCardSaid : Prop := Claim7.holds Tryz.pinned (.plain (OpenSpec.upto farkasBoxesSpec)) farkasBoxesUptoCard

/-- THE SECOND FORM's CARD OF 'avowlaw10.FarkasMixes'. -/
def farkasMixesUptoCard : Claim7 := { stood := { row := farkasMixesUptoRow, standIns := [], harness := (true, "9a82845758350d701d91ac3a9c33cfeedc38aa9ac6de1f3b7c034ee41bc8bace"), looks := false }, kinds := [], alts := [], laidByText := true, laidKinds := [.data, .data, .data], laidTests := true, laidLooks := .later }
def FarkasMixesUptoCardSaid : Prop := Claim7.holds Tryz.pinned (.plain (OpenSpec.upto farkasMixesSpec)) farkasMixesUptoCard
end Rows
end Go.Proofs.YtnkigifcilgmbaaGreatDoor
