/-
  NARROWER THAN 'FOR EVERY INPUT', by the rows' own cells (each row's printed sentence says how): TermChecks: loops, laid · TermTells: loops, laid · TermInsts: loops, laid · TermKeeps: loops, laid · TermApps: loops, laid · TermLimits: laid · TermSigs: loops, laid · TermWords: laid · TermCounts: loops, laid.
  DERIVED. THE GIVEN ROWS OF THIS SEAT. 9 by the template 'for every input the law returns true; each argument reads behind the call as it read before'; 0 by the template 'total and deterministic' (their statements: YtdkenobgfgmepaaDoorTotals.lean).
  GIVEN WITH THE SEED: the statements are not yours to turn. If you find one false, say at which input.
  Laid BY PROGRAM, IN A SANDBOX (cutbox-rows.mjs): the forced cells as the released guide's own fill.sh prints them over the translation 80b68d999efd3cac… (all of the seat's roots in one cut). By AI agents, Wed Nov 11 2026. No macro, syntax, notation, axiom, sorry.
-/
import Derived.Test.YtdkenobgfgmepaaDoorChecked
import GoSem.Claim
import GoSem.ClaimJoined
import GoSem.ClaimMapViews
import Derived.JoinedTies
import Derived.KernelRfl
namespace Go.Proofs.YtdkenobgfgmepaaDoor
/- THE CELL 'sum', in the pinned program and in every row, IS THE sha256 OF THE DUMP (.gsa) THAT YtdkenobgfgmepaaDoorProg.lean LOADS. Nothing in Lean hashes anything: it is a label: what it is worth is what the hold of that sum in a sandbox is worth. -/
noncomputable def Tryd.pinned : Pinned := { name := "ytdkenobgfgmepaadoor", sum := "80b68d999efd3cac1b338f726402fcd96a76cf583b72ad030f6e545461914fc1", checked := Tryd.checked }
namespace Rows
def none {H : Type} : Left H := { results := [], args := [] }

/- WHAT THE LISTED PACKAGE-LEVEL VARIABLES READ AS WHEN THE CALL BEGINS. Each datum BY PROGRAM (the guide's laid-datum.mjs) off the statement by which the dump's own 'gosem.cut.vars' lays the variable. In a bare row this is a premise. The card (YtdkenobgfgmepaaDoorCards.lean) ties it to the program's text. -/
def laid_avow_term_rules {H : Type} : DataW H := .agg [.agg [.lit (.string []), .lit (.int .i64 0), .lit (.int .i64 0), .lit (.int .i64 0)], .agg [.lit (.string []), .lit (.int .i64 0), .lit (.int .i64 0), .lit (.int .i64 0)], .agg [.lit (.string []), .lit (.int .i64 0), .lit (.int .i64 0), .lit (.int .i64 0)], .agg [.lit (.string []), .lit (.int .i64 0), .lit (.int .i64 0), .lit (.int .i64 0)], .agg [.lit (.string [110, 111, 116]), .lit (.int .i64 1), .lit (.int .i64 2), .lit (.int .i64 2)], .agg [.lit (.string [97, 110, 100]), .lit (.int .i64 (-1)), .lit (.int .i64 2), .lit (.int .i64 2)], .agg [.lit (.string [111, 114]), .lit (.int .i64 (-1)), .lit (.int .i64 2), .lit (.int .i64 2)], .agg [.lit (.string [61, 62]), .lit (.int .i64 2), .lit (.int .i64 2), .lit (.int .i64 2)], .agg [.lit (.string [105, 102, 102]), .lit (.int .i64 2), .lit (.int .i64 2), .lit (.int .i64 2)], .agg [.lit (.string [61]), .lit (.int .i64 2), .lit (.int .i64 0), .lit (.int .i64 2)], .agg [.lit (.string [60, 61]), .lit (.int .i64 2), .lit (.int .i64 1), .lit (.int .i64 2)], .agg [.lit (.string [60]), .lit (.int .i64 2), .lit (.int .i64 1), .lit (.int .i64 2)], .agg [.lit (.string [43]), .lit (.int .i64 (-1)), .lit (.int .i64 1), .lit (.int .i64 1)], .agg [.lit (.string [45]), .lit (.int .i64 2), .lit (.int .i64 1), .lit (.int .i64 1)], .agg [.lit (.string [110, 101, 103]), .lit (.int .i64 1), .lit (.int .i64 1), .lit (.int .i64 1)], .agg [.lit (.string [42]), .lit (.int .i64 2), .lit (.int .i64 1), .lit (.int .i64 1)], .agg [.lit (.string [105, 116, 101]), .lit (.int .i64 3), .lit (.int .i64 0), .lit (.int .i64 0)]]

/-- 'avowlaw3.TermChecks': WHATEVER THE INPUT: true; the input reads as it did. -/
def termChecksSpec : ChangeSpec := { name := "termChecks", fn := fun _ => fun
  | [d1, d2] => { results := [.lit (.bool true)], args := [d1, d2] }
  | _ => none }
def termChecksRow : OpenClaim := { program := "ytdkenobgfgmepaadoor", sum := "80b68d999efd3cac1b338f726402fcd96a76cf583b72ad030f6e545461914fc1", func := "avow/avowlaw3.TermChecks", spec := "termChecks", inPlace := ["internal/abi.NoEscape"], unfollowed := true, recurses := true, named := ["avow/term.rules"], loops := true, plainKeys := false, apart := false, laid := [("avow/term.rules", laid_avow_term_rules)] }
def TermChecksSaid : Prop := termChecksRow.holds Tryd.pinned (OpenSpec.ofChange termChecksSpec)

/-- ITS FALSE NEIGHBOUR: 'it returns false'. Refute it at one input. -/
def termChecksWrong : ChangeSpec := { name := "termChecks", fn := fun _ => fun
  | [d1, d2] => { results := [.lit (.bool false)], args := [d1, d2] }
  | _ => none }
def TermChecksWrongFalsely : Prop := termChecksRow.holds Tryd.pinned (OpenSpec.ofChange termChecksWrong)

/-- 'avowlaw3.TermTells': WHATEVER THE INPUT: true; the input reads as it did. -/
def termTellsSpec : ChangeSpec := { name := "termTells", fn := fun _ => fun
  | [d1, d2] => { results := [.lit (.bool true)], args := [d1, d2] }
  | _ => none }
def termTellsRow : OpenClaim := { program := "ytdkenobgfgmepaadoor", sum := "80b68d999efd3cac1b338f726402fcd96a76cf583b72ad030f6e545461914fc1", func := "avow/avowlaw3.TermTells", spec := "termTells", inPlace := ["internal/abi.NoEscape"], unfollowed := true, recurses := true, named := ["avow/term.rules"], loops := true, plainKeys := false, apart := false, laid := [("avow/term.rules", laid_avow_term_rules)] }
def TermTellsSaid : Prop := termTellsRow.holds Tryd.pinned (OpenSpec.ofChange termTellsSpec)

/-- ITS FALSE NEIGHBOUR: 'it returns false'. Refute it at one input. -/
def termTellsWrong : ChangeSpec := { name := "termTells", fn := fun _ => fun
  | [d1, d2] => { results := [.lit (.bool false)], args := [d1, d2] }
  | _ => none }
def TermTellsWrongFalsely : Prop := termTellsRow.holds Tryd.pinned (OpenSpec.ofChange termTellsWrong)

/-- 'avowlaw3.TermInsts': WHATEVER THE INPUT: true; the input reads as it did. -/
def termInstsSpec : ChangeSpec := { name := "termInsts", fn := fun _ => fun
  | [d1, d2] => { results := [.lit (.bool true)], args := [d1, d2] }
  | _ => none }
def termInstsRow : OpenClaim := { program := "ytdkenobgfgmepaadoor", sum := "80b68d999efd3cac1b338f726402fcd96a76cf583b72ad030f6e545461914fc1", func := "avow/avowlaw3.TermInsts", spec := "termInsts", inPlace := ["internal/abi.NoEscape"], unfollowed := true, recurses := true, named := ["avow/term.rules"], loops := true, plainKeys := false, apart := false, laid := [("avow/term.rules", laid_avow_term_rules)] }
def TermInstsSaid : Prop := termInstsRow.holds Tryd.pinned (OpenSpec.ofChange termInstsSpec)

/-- ITS FALSE NEIGHBOUR: 'it returns false'. Refute it at one input. -/
def termInstsWrong : ChangeSpec := { name := "termInsts", fn := fun _ => fun
  | [d1, d2] => { results := [.lit (.bool false)], args := [d1, d2] }
  | _ => none }
def TermInstsWrongFalsely : Prop := termInstsRow.holds Tryd.pinned (OpenSpec.ofChange termInstsWrong)

/-- 'avowlaw3.TermKeeps': WHATEVER THE INPUT: true; the input reads as it did. -/
def termKeepsSpec : ChangeSpec := { name := "termKeeps", fn := fun _ => fun
  | [d1, d2, d3] => { results := [.lit (.bool true)], args := [d1, d2, d3] }
  | _ => none }
def termKeepsRow : OpenClaim := { program := "ytdkenobgfgmepaadoor", sum := "80b68d999efd3cac1b338f726402fcd96a76cf583b72ad030f6e545461914fc1", func := "avow/avowlaw3.TermKeeps", spec := "termKeeps", inPlace := ["internal/abi.NoEscape"], unfollowed := true, recurses := true, named := ["avow/term.rules"], loops := true, plainKeys := false, apart := false, laid := [("avow/term.rules", laid_avow_term_rules)] }
def TermKeepsSaid : Prop := termKeepsRow.holds Tryd.pinned (OpenSpec.ofChange termKeepsSpec)

/-- ITS FALSE NEIGHBOUR: 'it returns false'. Refute it at one input. -/
def termKeepsWrong : ChangeSpec := { name := "termKeeps", fn := fun _ => fun
  | [d1, d2, d3] => { results := [.lit (.bool false)], args := [d1, d2, d3] }
  | _ => none }
def TermKeepsWrongFalsely : Prop := termKeepsRow.holds Tryd.pinned (OpenSpec.ofChange termKeepsWrong)

/-- 'avowlaw3.TermApps': WHATEVER THE INPUT: true; the input reads as it did. -/
def termAppsSpec : ChangeSpec := { name := "termApps", fn := fun _ => fun
  | [d] => { results := [.lit (.bool true)], args := [d] }
  | _ => none }
def termAppsRow : OpenClaim := { program := "ytdkenobgfgmepaadoor", sum := "80b68d999efd3cac1b338f726402fcd96a76cf583b72ad030f6e545461914fc1", func := "avow/avowlaw3.TermApps", spec := "termApps", inPlace := ["internal/abi.NoEscape"], unfollowed := true, recurses := true, named := ["avow/term.rules"], loops := true, plainKeys := false, apart := false, laid := [("avow/term.rules", laid_avow_term_rules)] }
def TermAppsSaid : Prop := termAppsRow.holds Tryd.pinned (OpenSpec.ofChange termAppsSpec)

/-- ITS FALSE NEIGHBOUR: 'it returns false'. Refute it at one input. -/
def termAppsWrong : ChangeSpec := { name := "termApps", fn := fun _ => fun
  | [d] => { results := [.lit (.bool false)], args := [d] }
  | _ => none }
def TermAppsWrongFalsely : Prop := termAppsRow.holds Tryd.pinned (OpenSpec.ofChange termAppsWrong)

/-- 'avowlaw3.TermLimits': WHATEVER THE INPUT: true; the input reads as it did. -/
def termLimitsSpec : ChangeSpec := { name := "termLimits", fn := fun _ => fun
  | [d1, d2] => { results := [.lit (.bool true)], args := [d1, d2] }
  | _ => none }
def termLimitsRow : OpenClaim := { program := "ytdkenobgfgmepaadoor", sum := "80b68d999efd3cac1b338f726402fcd96a76cf583b72ad030f6e545461914fc1", func := "avow/avowlaw3.TermLimits", spec := "termLimits", inPlace := ["internal/abi.NoEscape"], unfollowed := true, recurses := true, named := ["avow/term.rules"], plainKeys := false, apart := false, laid := [("avow/term.rules", laid_avow_term_rules)] }
def TermLimitsSaid : Prop := termLimitsRow.holds Tryd.pinned (OpenSpec.ofChange termLimitsSpec)

/-- ITS FALSE NEIGHBOUR: 'it returns false'. Refute it at one input. -/
def termLimitsWrong : ChangeSpec := { name := "termLimits", fn := fun _ => fun
  | [d1, d2] => { results := [.lit (.bool false)], args := [d1, d2] }
  | _ => none }
def TermLimitsWrongFalsely : Prop := termLimitsRow.holds Tryd.pinned (OpenSpec.ofChange termLimitsWrong)

/-- 'avowlaw3.TermSigs': WHATEVER THE INPUT: true; the input reads as it did. -/
def termSigsSpec : ChangeSpec := { name := "termSigs", fn := fun _ => fun
  | [d1, d2, d3] => { results := [.lit (.bool true)], args := [d1, d2, d3] }
  | _ => none }
def termSigsRow : OpenClaim := { program := "ytdkenobgfgmepaadoor", sum := "80b68d999efd3cac1b338f726402fcd96a76cf583b72ad030f6e545461914fc1", func := "avow/avowlaw3.TermSigs", spec := "termSigs", inPlace := ["internal/abi.NoEscape"], unfollowed := true, recurses := true, named := ["avow/term.rules"], loops := true, plainKeys := false, apart := false, laid := [("avow/term.rules", laid_avow_term_rules)] }
def TermSigsSaid : Prop := termSigsRow.holds Tryd.pinned (OpenSpec.ofChange termSigsSpec)

/-- ITS FALSE NEIGHBOUR: 'it returns false'. Refute it at one input. -/
def termSigsWrong : ChangeSpec := { name := "termSigs", fn := fun _ => fun
  | [d1, d2, d3] => { results := [.lit (.bool false)], args := [d1, d2, d3] }
  | _ => none }
def TermSigsWrongFalsely : Prop := termSigsRow.holds Tryd.pinned (OpenSpec.ofChange termSigsWrong)

/-- 'avowlaw3.TermWords': WHATEVER THE INPUT: true; the input reads as it did. -/
def termWordsSpec : ChangeSpec := { name := "termWords", fn := fun _ => fun
  | [d1, d2] => { results := [.lit (.bool true)], args := [d1, d2] }
  | _ => none }
def termWordsRow : OpenClaim := { program := "ytdkenobgfgmepaadoor", sum := "80b68d999efd3cac1b338f726402fcd96a76cf583b72ad030f6e545461914fc1", func := "avow/avowlaw3.TermWords", spec := "termWords", inPlace := ["internal/abi.NoEscape"], unfollowed := true, recurses := true, named := ["avow/term.rules"], plainKeys := false, apart := false, laid := [("avow/term.rules", laid_avow_term_rules)] }
def TermWordsSaid : Prop := termWordsRow.holds Tryd.pinned (OpenSpec.ofChange termWordsSpec)

/-- ITS FALSE NEIGHBOUR: 'it returns false'. Refute it at one input. -/
def termWordsWrong : ChangeSpec := { name := "termWords", fn := fun _ => fun
  | [d1, d2] => { results := [.lit (.bool false)], args := [d1, d2] }
  | _ => none }
def TermWordsWrongFalsely : Prop := termWordsRow.holds Tryd.pinned (OpenSpec.ofChange termWordsWrong)

/-- 'avowlaw3.TermCounts': WHATEVER THE INPUT: true; the input reads as it did. -/
def termCountsSpec : ChangeSpec := { name := "termCounts", fn := fun _ => fun
  | [d1, d2] => { results := [.lit (.bool true)], args := [d1, d2] }
  | _ => none }
def termCountsRow : OpenClaim := { program := "ytdkenobgfgmepaadoor", sum := "80b68d999efd3cac1b338f726402fcd96a76cf583b72ad030f6e545461914fc1", func := "avow/avowlaw3.TermCounts", spec := "termCounts", inPlace := ["internal/abi.NoEscape"], unfollowed := true, recurses := true, named := ["avow/term.rules"], loops := true, plainKeys := false, apart := false, laid := [("avow/term.rules", laid_avow_term_rules)] }
def TermCountsSaid : Prop := termCountsRow.holds Tryd.pinned (OpenSpec.ofChange termCountsSpec)

/-- ITS FALSE NEIGHBOUR: 'it returns false'. Refute it at one input. -/
def termCountsWrong : ChangeSpec := { name := "termCounts", fn := fun _ => fun
  | [d1, d2] => { results := [.lit (.bool false)], args := [d1, d2] }
  | _ => none }
def TermCountsWrongFalsely : Prop := termCountsRow.holds Tryd.pinned (OpenSpec.ofChange termCountsWrong)

/- THE SECOND FORM. 'bulk': how many values and letters a reading holds, each counted each time it is reached (what is shared counts as often as it is met; a slice's spare places count too). A statement '..UptoSaid' is the law's where the arguments, and the package variables that the reading takes, are together of bulk at most 1048576: NARROWER than '..Said'. Prove '..Said' where nothing that the law and all that it calls make is longer than what came in: it says more and counts as full. Else prove '..UptoSaid'. A law counts once. -/
mutual
def uptoBulk {H : Type} : DataW H → Nat
  | .lit (.string bytes) => bytes.length + 1
  | .lit _ => 1
  | .nil => 1
  | .ptr d => uptoBulk d + 1
  | .slice elems spare => uptoBulkAll elems + uptoBulkAll spare + 1
  | .agg parts => uptoBulkAll parts + 1
  | .iface _ d => uptoBulk d + 1
  | .map entries => uptoBulkEntries entries + 1
  | .held _ => 1
def uptoBulkAll {H : Type} : List (DataW H) → Nat
  | [] => 0
  | d :: r => uptoBulk d + uptoBulkAll r
def uptoBulkEntries {H : Type} : List (Lit × DataW H) → Nat
  | [] => 0
  | x :: r => uptoBulkEntry x + uptoBulkEntries r
def uptoBulkEntry {H : Type} : Lit × DataW H → Nat
  | (.string bytes, d) => bytes.length + uptoBulk d + 1
  | (_, d) => uptoBulk d + 1
 end
def uptoSmall : (H : Type) → List (DataW H) → Bool := fun _ ds => decide (uptoBulkAll ds ≤ 1048576)
def OpenSpec.upto (s : _root_.Go.ChangeSpec) : _root_.Go.OpenSpec := { _root_.Go.OpenSpec.ofChange s with cond := some uptoSmall }

/-- 'avowlaw3.TermChecks', WHERE WHAT IT READS IS OF BULK AT MOST 1048576: true; the input reads as it did. -/
def termChecksUptoRow : OpenClaim := { program := "ytdkenobgfgmepaadoor", sum := "80b68d999efd3cac1b338f726402fcd96a76cf583b72ad030f6e545461914fc1", func := "avow/avowlaw3.TermChecks", spec := "termChecks", inPlace := ["internal/abi.NoEscape"], unfollowed := true, recurses := true, named := ["avow/term.rules"], loops := true, plainKeys := false, apart := false, laid := [("avow/term.rules", laid_avow_term_rules)], narrowed := true }
def TermChecksUptoSaid : Prop := termChecksUptoRow.holds Tryd.pinned (OpenSpec.upto termChecksSpec)

/-- 'avowlaw3.TermTells', WHERE WHAT IT READS IS OF BULK AT MOST 1048576: true; the input reads as it did. -/
def termTellsUptoRow : OpenClaim := { program := "ytdkenobgfgmepaadoor", sum := "80b68d999efd3cac1b338f726402fcd96a76cf583b72ad030f6e545461914fc1", func := "avow/avowlaw3.TermTells", spec := "termTells", inPlace := ["internal/abi.NoEscape"], unfollowed := true, recurses := true, named := ["avow/term.rules"], loops := true, plainKeys := false, apart := false, laid := [("avow/term.rules", laid_avow_term_rules)], narrowed := true }
def TermTellsUptoSaid : Prop := termTellsUptoRow.holds Tryd.pinned (OpenSpec.upto termTellsSpec)

/-- 'avowlaw3.TermInsts', WHERE WHAT IT READS IS OF BULK AT MOST 1048576: true; the input reads as it did. -/
def termInstsUptoRow : OpenClaim := { program := "ytdkenobgfgmepaadoor", sum := "80b68d999efd3cac1b338f726402fcd96a76cf583b72ad030f6e545461914fc1", func := "avow/avowlaw3.TermInsts", spec := "termInsts", inPlace := ["internal/abi.NoEscape"], unfollowed := true, recurses := true, named := ["avow/term.rules"], loops := true, plainKeys := false, apart := false, laid := [("avow/term.rules", laid_avow_term_rules)], narrowed := true }
def TermInstsUptoSaid : Prop := termInstsUptoRow.holds Tryd.pinned (OpenSpec.upto termInstsSpec)

/-- 'avowlaw3.TermKeeps', WHERE WHAT IT READS IS OF BULK AT MOST 1048576: true; the input reads as it did. -/
def termKeepsUptoRow : OpenClaim := { program := "ytdkenobgfgmepaadoor", sum := "80b68d999efd3cac1b338f726402fcd96a76cf583b72ad030f6e545461914fc1", func := "avow/avowlaw3.TermKeeps", spec := "termKeeps", inPlace := ["internal/abi.NoEscape"], unfollowed := true, recurses := true, named := ["avow/term.rules"], loops := true, plainKeys := false, apart := false, laid := [("avow/term.rules", laid_avow_term_rules)], narrowed := true }
def TermKeepsUptoSaid : Prop := termKeepsUptoRow.holds Tryd.pinned (OpenSpec.upto termKeepsSpec)

/-- 'avowlaw3.TermApps', WHERE WHAT IT READS IS OF BULK AT MOST 1048576: true; the input reads as it did. -/
def termAppsUptoRow : OpenClaim := { program := "ytdkenobgfgmepaadoor", sum := "80b68d999efd3cac1b338f726402fcd96a76cf583b72ad030f6e545461914fc1", func := "avow/avowlaw3.TermApps", spec := "termApps", inPlace := ["internal/abi.NoEscape"], unfollowed := true, recurses := true, named := ["avow/term.rules"], loops := true, plainKeys := false, apart := false, laid := [("avow/term.rules", laid_avow_term_rules)], narrowed := true }
def TermAppsUptoSaid : Prop := termAppsUptoRow.holds Tryd.pinned (OpenSpec.upto termAppsSpec)

/-- 'avowlaw3.TermLimits', WHERE WHAT IT READS IS OF BULK AT MOST 1048576: true; the input reads as it did. -/
def termLimitsUptoRow : OpenClaim := { program := "ytdkenobgfgmepaadoor", sum := "80b68d999efd3cac1b338f726402fcd96a76cf583b72ad030f6e545461914fc1", func := "avow/avowlaw3.TermLimits", spec := "termLimits", inPlace := ["internal/abi.NoEscape"], unfollowed := true, recurses := true, named := ["avow/term.rules"], plainKeys := false, apart := false, laid := [("avow/term.rules", laid_avow_term_rules)], narrowed := true }
def TermLimitsUptoSaid : Prop := termLimitsUptoRow.holds Tryd.pinned (OpenSpec.upto termLimitsSpec)

/-- 'avowlaw3.TermSigs', WHERE WHAT IT READS IS OF BULK AT MOST 1048576: true; the input reads as it did. -/
def termSigsUptoRow : OpenClaim := { program := "ytdkenobgfgmepaadoor", sum := "80b68d999efd3cac1b338f726402fcd96a76cf583b72ad030f6e545461914fc1", func := "avow/avowlaw3.TermSigs", spec := "termSigs", inPlace := ["internal/abi.NoEscape"], unfollowed := true, recurses := true, named := ["avow/term.rules"], loops := true, plainKeys := false, apart := false, laid := [("avow/term.rules", laid_avow_term_rules)], narrowed := true }
def TermSigsUptoSaid : Prop := termSigsUptoRow.holds Tryd.pinned (OpenSpec.upto termSigsSpec)

/-- 'avowlaw3.TermWords', WHERE WHAT IT READS IS OF BULK AT MOST 1048576: true; the input reads as it did. -/
def termWordsUptoRow : OpenClaim := { program := "ytdkenobgfgmepaadoor", sum := "80b68d999efd3cac1b338f726402fcd96a76cf583b72ad030f6e545461914fc1", func := "avow/avowlaw3.TermWords", spec := "termWords", inPlace := ["internal/abi.NoEscape"], unfollowed := true, recurses := true, named := ["avow/term.rules"], plainKeys := false, apart := false, laid := [("avow/term.rules", laid_avow_term_rules)], narrowed := true }
def TermWordsUptoSaid : Prop := termWordsUptoRow.holds Tryd.pinned (OpenSpec.upto termWordsSpec)

/-- 'avowlaw3.TermCounts', WHERE WHAT IT READS IS OF BULK AT MOST 1048576: true; the input reads as it did. -/
def termCountsUptoRow : OpenClaim := { program := "ytdkenobgfgmepaadoor", sum := "80b68d999efd3cac1b338f726402fcd96a76cf583b72ad030f6e545461914fc1", func := "avow/avowlaw3.TermCounts", spec := "termCounts", inPlace := ["internal/abi.NoEscape"], unfollowed := true, recurses := true, named := ["avow/term.rules"], loops := true, plainKeys := false, apart := false, laid := [("avow/term.rules", laid_avow_term_rules)], narrowed := true }
def TermCountsUptoSaid : Prop := termCountsUptoRow.holds Tryd.pinned (OpenSpec.upto termCountsSpec)

end Rows
end Go.Proofs.YtdkenobgfgmepaaDoor
