/-
  DERIVED. GIVEN WITH THE SEED: THE CARDS: each row of YthgdmppmjnmiiaaGreatDoorRows.lean that lists a variable, with what it lists TIED to the program's text (the seventh form; the later family's looks); each row that meets fmt, with fmt's text TOLD by the authors' own Lean function (tested against real Go, not proved from fmt's source: count such statements apart). THE CARD IS WHAT COUNTS. Prove the row's statement (the work); the ties are given (YthgdmppmjnmiiaaGreatDoorTie.lean); close each card by the builder's one call (the guide's Derived/Test/ToyasCard.lean, 'card_holds'). Laid BY PROGRAM, IN A SANDBOX (cutbox-door.mjs). By AI agents, Wed Nov 11 2026. No macro, syntax, notation, axiom, sorry.
-/
import Derived.Test.YthgdmppmjnmiiaaGreatDoorRows
import GoSem.ClaimSeven
namespace Go.Proofs.YthgdmppmjnmiiaaGreatDoor
namespace Rows

/-- THE TIED CARD OF 'avowlaw10.FarkasSums'. -/
def farkasSumsCard : Claim7 := { stood := { row := farkasSumsRow, standIns := [], harness := (true, "575c09ee2c5ca387b651012624252f1bb4a2fa3d54c1a9050729e7ff4eeef977"), looks := false }, kinds := [], alts := [], laidByText := true, laidKinds := [.data, .data, .data], laidTests := true, laidLooks := .later }
def FarkasSumsCardSaid : Prop := Claim7.holds Tryz.pinned (.plain (OpenSpec.ofChange farkasSumsSpec)) farkasSumsCard

/-- THE SECOND FORM's CARD OF 'avowlaw10.FarkasSums'. -/
def farkasSumsUptoCard : Claim7 := { stood := { row := farkasSumsUptoRow, standIns := [], harness := (true, "575c09ee2c5ca387b651012624252f1bb4a2fa3d54c1a9050729e7ff4eeef977"), looks := false }, kinds := [], alts := [], laidByText := true, laidKinds := [.data, .data, .data], laidTests := true, laidLooks := .later }
def FarkasSumsUptoCardSaid : Prop := Claim7.holds Tryz.pinned (.plain (OpenSpec.upto farkasSumsSpec)) farkasSumsUptoCard
end Rows
end Go.Proofs.YthgdmppmjnmiiaaGreatDoor
