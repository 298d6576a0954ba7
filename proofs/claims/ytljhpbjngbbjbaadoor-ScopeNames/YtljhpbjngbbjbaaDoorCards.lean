/-
  DERIVED. GIVEN WITH THE SEED: THE CARDS: each row of YtljhpbjngbbjbaaDoorRows.lean that lists a variable, with what it lists TIED to the program's text (the seventh form; the later family's looks); each row that meets fmt, with fmt's text TOLD by the authors' own Lean function (tested against real Go, not proved from fmt's source: count such statements apart). THE CARD IS WHAT COUNTS. Prove the row's statement (the work); the ties are given (YtljhpbjngbbjbaaDoorTie.lean); close each card by the builder's one call (the guide's Derived/Test/ToyasCard.lean, 'card_holds'). Laid BY PROGRAM, IN A SANDBOX (cutbox-door.mjs). By AI agents, Wed Nov 11 2026. No macro, syntax, notation, axiom, sorry.
-/
import Derived.Test.YtljhpbjngbbjbaaDoorRows
import GoSem.ClaimSeven
namespace Go.Proofs.YtljhpbjngbbjbaaDoor
namespace Rows

/-- THE TIED CARD OF 'avowlaw17.ScopeResolves'. -/
def scopeResolvesCard : Claim7 := { stood := { row := scopeResolvesRow, standIns := [], harness := (true, "fe71642f0ce72792c426f7083e7bebb78b05756516fdb2dcfd5aa387a8a334d8"), looks := true }, kinds := [], alts := [], laidByText := true, laidKinds := [.data, .handle, .pinned], laidTests := true, laidLooks := .later }
def ScopeResolvesCardSaid : Prop := Claim7.holds Tryd.pinned (.plain (OpenSpec.ofChange scopeResolvesSpec)) scopeResolvesCard

/-- THE TIED CARD OF 'avowlaw17.ScopeTwice'. -/
def scopeTwiceCard : Claim7 := { stood := { row := scopeTwiceRow, standIns := [], harness := (true, "fe71642f0ce72792c426f7083e7bebb78b05756516fdb2dcfd5aa387a8a334d8"), looks := true }, kinds := [], alts := [], laidByText := true, laidKinds := [.data, .handle, .pinned], laidTests := true, laidLooks := .later }
def ScopeTwiceCardSaid : Prop := Claim7.holds Tryd.pinned (.plain (OpenSpec.ofChange scopeTwiceSpec)) scopeTwiceCard

/-- THE TIED CARD OF 'avowlaw17.ScopeNames'. -/
def scopeNamesCard : Claim7 := { stood := { row := scopeNamesRow, standIns := [], harness := (true, "fe71642f0ce72792c426f7083e7bebb78b05756516fdb2dcfd5aa387a8a334d8"), looks := true }, kinds := [], alts := [], laidByText := true, laidKinds := [.data, .handle, .pinned], laidTests := true, laidLooks := .later }
def ScopeNamesCardSaid : Prop := Claim7.holds Tryd.pinned (.plain (OpenSpec.ofChange scopeNamesSpec)) scopeNamesCard

/-- THE SECOND FORM's CARD OF 'avowlaw17.ScopeResolves'. -/
def scopeResolvesUptoCard : Claim7 := { stood := { row := scopeResolvesUptoRow, standIns := [], harness := (true, "fe71642f0ce72792c426f7083e7bebb78b05756516fdb2dcfd5aa387a8a334d8"), looks := true }, kinds := [], alts := [], laidByText := true, laidKinds := [.data, .handle, .pinned], laidTests := true, laidLooks := .later }
def ScopeResolvesUptoCardSaid : Prop := Claim7.holds Tryd.pinned (.plain (OpenSpec.upto scopeResolvesSpec)) scopeResolvesUptoCard

/-- THE SECOND FORM's CARD OF 'avowlaw17.ScopeTwice'. -/
def scopeTwiceUptoCard : Claim7 := { stood := { row := scopeTwiceUptoRow, standIns := [], harness := (true, "fe71642f0ce72792c426f7083e7bebb78b05756516fdb2dcfd5aa387a8a334d8"), looks := true }, kinds := [], alts := [], laidByText := true, laidKinds := [.data, .handle, .pinned], laidTests := true, laidLooks := .later }
def ScopeTwiceUptoCardSaid : Prop := Claim7.holds Tryd.pinned (.plain (OpenSpec.upto scopeTwiceSpec)) scopeTwiceUptoCard

/-- THE SECOND FORM's CARD OF 'avowlaw17.ScopeNames'. -/
def scopeNamesUptoCard : Claim7 := { stood := { row := scopeNamesUptoRow, standIns := [], harness := (true, "fe71642f0ce72792c426f7083e7bebb78b05756516fdb2dcfd5aa387a8a334d8"), looks := true }, kinds := [], alts := [], laidByText := true, laidKinds := [.data, .handle, .pinned], laidTests := true, laidLooks := .later }
def ScopeNamesUptoCardSaid : Prop := Claim7.holds Tryd.pinned (.plain (OpenSpec.upto scopeNamesSpec)) scopeNamesUptoCard
end Rows
end Go.Proofs.YtljhpbjngbbjbaaDoor
