/-
  DERIVED. GIVEN WITH THE SEED: THE CARDS: each row of YtdkenobgfgmepaaDoorRows.lean that lists a variable, with what it lists TIED to the program's text (the seventh form; the later family's looks); each row that meets fmt, with fmt's text TOLD by the authors' own Lean function (tested against real Go, not proved from fmt's source: count such statements apart). THE CARD IS WHAT COUNTS. Prove the row's statement (the work); the ties are given (YtdkenobgfgmepaaDoorTie.lean); close each card by the builder's one call (the guide's Derived/Test/ToyasCard.lean, 'card_holds'). Laid BY PROGRAM, IN A SANDBOX (cutbox-door.mjs). By AI agents, Wed Nov 11 2026. No macro, syntax, notation, axiom, sorry.
-/
import Derived.Test.YtdkenobgfgmepaaDoorRows
import GoSem.ClaimSeven
namespace Go.Proofs.YtdkenobgfgmepaaDoor
namespace Rows

/-- THE TIED CARD OF 'avowlaw3.TermChecks'. -/
def termChecksCard : Claim7 := { stood := { row := termChecksRow, standIns := [], harness := (true, "25ddf41967e242538d67d4c2b7a289cc1ef0d61cdbbfd088ace237aef8bf86be"), looks := true }, kinds := [], alts := [], laidByText := true, laidKinds := [.data], laidTests := true, laidLooks := .later }
def TermChecksCardSaid : Prop := Claim7.holds Tryd.pinned (.plain (OpenSpec.ofChange termChecksSpec)) termChecksCard

/-- THE TIED CARD OF 'avowlaw3.TermTells'. -/
def termTellsCard : Claim7 := { stood := { row := termTellsRow, standIns := [], harness := (true, "25ddf41967e242538d67d4c2b7a289cc1ef0d61cdbbfd088ace237aef8bf86be"), looks := true }, kinds := [], alts := [], laidByText := true, laidKinds := [.data], laidTests := true, laidLooks := .later }
def TermTellsCardSaid : Prop := Claim7.holds Tryd.pinned (.plain (OpenSpec.ofChange termTellsSpec)) termTellsCard

/-- THE TIED CARD OF 'avowlaw3.TermInsts'. -/
def termInstsCard : Claim7 := { stood := { row := termInstsRow, standIns := [], harness := (true, "25ddf41967e242538d67d4c2b7a289cc1ef0d61cdbbfd088ace237aef8bf86be"), looks := true }, kinds := [], alts := [], laidByText := true, laidKinds := [.data], laidTests := true, laidLooks := .later }
def TermInstsCardSaid : Prop := Claim7.holds Tryd.pinned (.plain (OpenSpec.ofChange termInstsSpec)) termInstsCard

/-- THE TIED CARD OF 'avowlaw3.TermKeeps'. -/
def termKeepsCard : Claim7 := { stood := { row := termKeepsRow, standIns := [], harness := (true, "25ddf41967e242538d67d4c2b7a289cc1ef0d61cdbbfd088ace237aef8bf86be"), looks := true }, kinds := [], alts := [], laidByText := true, laidKinds := [.data], laidTests := true, laidLooks := .later }
def TermKeepsCardSaid : Prop := Claim7.holds Tryd.pinned (.plain (OpenSpec.ofChange termKeepsSpec)) termKeepsCard

/-- THE TIED CARD OF 'avowlaw3.TermApps'. -/
def termAppsCard : Claim7 := { stood := { row := termAppsRow, standIns := [], harness := (true, "25ddf41967e242538d67d4c2b7a289cc1ef0d61cdbbfd088ace237aef8bf86be"), looks := true }, kinds := [], alts := [], laidByText := true, laidKinds := [.data], laidTests := true, laidLooks := .later }
def TermAppsCardSaid : Prop := Claim7.holds Tryd.pinned (.plain (OpenSpec.ofChange termAppsSpec)) termAppsCard

/-- THE TIED CARD OF 'avowlaw3.TermLimits'. -/
def termLimitsCard : Claim7 := { stood := { row := termLimitsRow, standIns := [], harness := (true, "25ddf41967e242538d67d4c2b7a289cc1ef0d61cdbbfd088ace237aef8bf86be"), looks := true }, kinds := [], alts := [], laidByText := true, laidKinds := [.data], laidTests := true, laidLooks := .later }
def TermLimitsCardSaid : Prop := Claim7.holds Tryd.pinned (.plain (OpenSpec.ofChange termLimitsSpec)) termLimitsCard

/-- THE TIED CARD OF 'avowlaw3.TermSigs'. -/
def termSigsCard : Claim7 := { stood := { row := termSigsRow, standIns := [], harness := (true, "25ddf41967e242538d67d4c2b7a289cc1ef0d61cdbbfd088ace237aef8bf86be"), looks := true }, kinds := [], alts := [], laidByText := true, laidKinds := [.data], laidTests := true, laidLooks := .later }
def TermSigsCardSaid : Prop := Claim7.holds Tryd.pinned (.plain (OpenSpec.ofChange termSigsSpec)) termSigsCard

/-- THE TIED CARD OF 'avowlaw3.TermWords'. -/
def termWordsCard : Claim7 := { stood := { row := termWordsRow, standIns := [], harness := (true, "25ddf41967e242538d67d4c2b7a289cc1ef0d61cdbbfd088ace237aef8bf86be"), looks := true }, kinds := [], alts := [], laidByText := true, laidKinds := [.data], laidTests := true, laidLooks := .later }
def TermWordsCardSaid : Prop := Claim7.holds Tryd.pinned (.plain (OpenSpec.ofChange termWordsSpec)) termWordsCard

/-- THE TIED CARD OF 'avowlaw3.TermCounts'. -/
def termCountsCard : Claim7 := { stood := { row := termCountsRow, standIns := [], harness := (true, "25ddf41967e242538d67d4c2b7a289cc1ef0d61cdbbfd088ace237aef8bf86be"), looks := true }, kinds := [], alts := [], laidByText := true, laidKinds := [.data], laidTests := true, laidLooks := .later }
def TermCountsCardSaid : Prop := Claim7.holds Tryd.pinned (.plain (OpenSpec.ofChange termCountsSpec)) termCountsCard

/-- THE SECOND FORM's CARD OF 'avowlaw3.TermChecks'. -/
def termChecksUptoCard : Claim7 := { stood := { row := termChecksUptoRow, standIns := [], harness := (true, "25ddf41967e242538d67d4c2b7a289cc1ef0d61cdbbfd088ace237aef8bf86be"), looks := true }, kinds := [], alts := [], laidByText := true, laidKinds := [.data], laidTests := true, laidLooks := .later }
def TermChecksUptoCardSaid : Prop := Claim7.holds Tryd.pinned (.plain (OpenSpec.upto termChecksSpec)) termChecksUptoCard

/-- THE SECOND FORM's CARD OF 'avowlaw3.TermTells'. -/
def termTellsUptoCard : Claim7 := { stood := { row := termTellsUptoRow, standIns := [], harness := (true, "25ddf41967e242538d67d4c2b7a289cc1ef0d61cdbbfd088ace237aef8bf86be"), looks := true }, kinds := [], alts := [], laidByText := true, laidKinds := [.data], laidTests := true, laidLooks := .later }
def TermTellsUptoCardSaid : Prop := Claim7.holds Tryd.pinned (.plain (OpenSpec.upto termTellsSpec)) termTellsUptoCard

/-- THE SECOND FORM's CARD OF 'avowlaw3.TermInsts'. -/
def termInstsUptoCard : Claim7 := { stood := { row := termInstsUptoRow, standIns := [], harness := (true, "25ddf41967e242538d67d4c2b7a289cc1ef0d61cdbbfd088ace237aef8bf86be"), looks := true }, kinds := [], alts := [], laidByText := true, laidKinds := [.data], laidTests := true, laidLooks := .later }
def TermInstsUptoCardSaid : Prop := Claim7.holds Tryd.pinned (.plain (OpenSpec.upto termInstsSpec)) termInstsUptoCard

/-- THE SECOND FORM's CARD OF 'avowlaw3.TermKeeps'. -/
def termKeepsUptoCard : Claim7 := { stood := { row := termKeepsUptoRow, standIns := [], harness := (true, "25ddf41967e242538d67d4c2b7a289cc1ef0d61cdbbfd088ace237aef8bf86be"), looks := true }, kinds := [], alts := [], laidByText := true, laidKinds := [.data], laidTests := true, laidLooks := .later }
def TermKeepsUptoCardSaid : Prop := Claim7.holds Tryd.pinned (.plain (OpenSpec.upto termKeepsSpec)) termKeepsUptoCard

/-- THE SECOND FORM's CARD OF 'avowlaw3.TermApps'. -/
def termAppsUptoCard : Claim7 := { stood := { row := termAppsUptoRow, standIns := [], harness := (true, "25ddf41967e242538d67d4c2b7a289cc1ef0d61cdbbfd088ace237aef8bf86be"), looks := true }, kinds := [], alts := [], laidByText := true, laidKinds := [.data], laidTests := true, laidLooks := .later }
def TermAppsUptoCardSaid : Prop := Claim7.holds Tryd.pinned (.plain (OpenSpec.upto termAppsSpec)) termAppsUptoCard

/-- THE SECOND FORM's CARD OF 'avowlaw3.TermLimits'. -/
def termLimitsUptoCard : Claim7 := { stood := { row := termLimitsUptoRow, standIns := [], harness := (true, "25ddf41967e242538d67d4c2b7a289cc1ef0d61cdbbfd088ace237aef8bf86be"), looks := true }, kinds := [], alts := [], laidByText := true, laidKinds := [.data], laidTests := true, laidLooks := .later }
def TermLimitsUptoCardSaid : Prop := Claim7.holds Tryd.pinned (.plain (OpenSpec.upto termLimitsSpec)) termLimitsUptoCard

/-- THE SECOND FORM's CARD OF 'avowlaw3.TermSigs'. -/
def termSigsUptoCard : Claim7 := { stood := { row := termSigsUptoRow, standIns := [], harness := (true, "25ddf41967e242538d67d4c2b7a289cc1ef0d61cdbbfd088ace237aef8bf86be"), looks := true }, kinds := [], alts := [], laidByText := true, laidKinds := [.data], laidTests := true, laidLooks := .later }
def TermSigsUptoCardSaid : Prop := Claim7.holds Tryd.pinned (.plain (OpenSpec.upto termSigsSpec)) termSigsUptoCard

/-- THE SECOND FORM's CARD OF 'avowlaw3.TermWords'. -/
def termWordsUptoCard : Claim7 := { stood := { row := termWordsUptoRow, standIns := [], harness := (true, "25ddf41967e242538d67d4c2b7a289cc1ef0d61cdbbfd088ace237aef8bf86be"), looks := true }, kinds := [], alts := [], laidByText := true, laidKinds := [.data], laidTests := true, laidLooks := .later }
def TermWordsUptoCardSaid : Prop := Claim7.holds Tryd.pinned (.plain (OpenSpec.upto termWordsSpec)) termWordsUptoCard

/-- THE SECOND FORM's CARD OF 'avowlaw3.TermCounts'. -/
def termCountsUptoCard : Claim7 := { stood := { row := termCountsUptoRow, standIns := [], harness := (true, "25ddf41967e242538d67d4c2b7a289cc1ef0d61cdbbfd088ace237aef8bf86be"), looks := true }, kinds := [], alts := [], laidByText := true, laidKinds := [.data], laidTests := true, laidLooks := .later }
def TermCountsUptoCardSaid : Prop := Claim7.holds Tryd.pinned (.plain (OpenSpec.upto termCountsSpec)) termCountsUptoCard
end Rows
end Go.Proofs.YtdkenobgfgmepaaDoor
