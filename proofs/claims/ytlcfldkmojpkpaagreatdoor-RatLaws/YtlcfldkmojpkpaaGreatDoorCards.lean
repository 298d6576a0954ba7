/-
  DERIVED. GIVEN WITH THE SEED: THE CARDS: each row of YtlcfldkmojpkpaaGreatDoorRows.lean that lists a variable, with what it lists TIED to the program's text (the seventh form; the later family's looks); each row that meets fmt, with fmt's text TOLD by the authors' own Lean function (tested against real Go, not proved from fmt's source: count such statements apart). THE CARD IS WHAT COUNTS. Prove the row's statement (the work); the ties are given (YtlcfldkmojpkpaaGreatDoorTie.lean); close each card by the builder's one call (the guide's Derived/Test/ToyasCard.lean, 'card_holds'). Laid BY PROGRAM, IN A SANDBOX (cutbox-door.mjs). By AI agents, Wed Nov 11 2026. No macro, syntax, notation, axiom, sorry.
-/
import Derived.Test.YtlcfldkmojpkpaaGreatDoorRows
import GoSem.ClaimSeven
namespace Go.Proofs.YtlcfldkmojpkpaaGreatDoor
namespace Rows

/-- THE TIED CARD OF 'avowlaw2.RatReckons'. -/
def ratReckonsCard : Claim7 := { stood := { row := ratReckonsRow, standIns := [], harness := (true, "bb70fe1a62ed31d5f486c487954d57adef05717b9e5438e201fe9119567a73a4"), looks := false }, kinds := [], alts := [], laidByText := true, laidKinds := [.data, .data, .data], laidTests := true, laidLooks := .later }
def RatReckonsCardSaid : Prop := Claim7.holds Tryz.pinned (.plain (OpenSpec.ofChange ratReckonsSpec)) ratReckonsCard

/-- THE TIED CARD OF 'avowlaw2.RatLaws'. -/
def ratLawsCard : Claim7 := { stood := { row := ratLawsRow, standIns := [], harness := (true, "bb70fe1a62ed31d5f486c487954d57adef05717b9e5438e201fe9119567a73a4"), looks := false }, kinds := [], alts := [], laidByText := true, laidKinds := [.data, .data, .data], laidTests := true, laidLooks := .later }
def RatLawsCardSaid : Prop := Claim7.holds Tryz.pinned (.plain (OpenSpec.ofChange ratLawsSpec)) ratLawsCard

/-- THE TIED CARD OF 'avowlaw2.RatHalves'. -/
def ratHalvesCard : Claim7 := { stood := { row := ratHalvesRow, standIns := [], harness := (true, "bb70fe1a62ed31d5f486c487954d57adef05717b9e5438e201fe9119567a73a4"), looks := false }, kinds := [], alts := [], laidByText := true, laidKinds := [.data, .data, .data], laidTests := true, laidLooks := .later }
def RatHalvesCardSaid : Prop := Claim7.holds Tryz.pinned (.plain (OpenSpec.ofChange ratHalvesSpec)) ratHalvesCard

/-- THE SECOND FORM's CARD OF 'avowlaw2.RatReckons'. -/
def ratReckonsUptoCard : Claim7 := { stood := { row := ratReckonsUptoRow, standIns := [], harness := (true, "bb70fe1a62ed31d5f486c487954d57adef05717b9e5438e201fe9119567a73a4"), looks := false }, kinds := [], alts := [], laidByText := true, laidKinds := [.data, .data, .data], laidTests := true, laidLooks := .later }
def RatReckonsUptoCardSaid : Prop := Claim7.holds Tryz.pinned (.plain (OpenSpec.upto ratReckonsSpec)) ratReckonsUptoCard

/-- THE SECOND FORM's CARD OF 'avowlaw2.RatLaws'. -/
def ratLawsUptoCard : Claim7 := { stood := { row := ratLawsUptoRow, standIns := [], harness := (true, "bb70fe1a62ed31d5f486c487954d57adef05717b9e5438e201fe9119567a73a4"), looks := false }, kinds := [], alts := [], laidByText := true, laidKinds := [.data, .data, .data], laidTests := true, laidLooks := .later }
def RatLawsUptoCardSaid : Prop := Claim7.holds Tryz.pinned (.plain (OpenSpec.upto ratLawsSpec)) ratLawsUptoCard

/-- THE SECOND FORM's CARD OF 'avowlaw2.RatHalves'. -/
def ratHalvesUptoCard : Claim7 := { stood := { row := ratHalvesUptoRow, standIns := [], harness := (true, "bb70fe1a62ed31d5f486c487954d57adef05717b9e5438e201fe9119567a73a4"), looks := false }, kinds := [], alts := [], laidByText := true, laidKinds := [.data, .data, .data], laidTests := true, laidLooks := .later }
def RatHalvesUptoCardSaid : Prop := Claim7.holds Tryz.pinned (.plain (OpenSpec.upto ratHalvesSpec)) ratHalvesUptoCard
end Rows
end Go.Proofs.YtlcfldkmojpkpaaGreatDoor
