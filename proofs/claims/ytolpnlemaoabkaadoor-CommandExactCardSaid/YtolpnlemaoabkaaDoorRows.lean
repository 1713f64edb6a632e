/-
  NARROWER THAN 'FOR EVERY INPUT', by the rows' own cells (each row's printed sentence says how): CommandExact: laid · CommandBlocks: laid.
  DERIVED. THE GIVEN ROWS OF THIS SEAT. 2 by the template 'for every input the law returns true; each argument reads behind the call as it read before'; 0 by the template 'total and deterministic' (their statements: YtolpnlemaoabkaaDoorTotals.lean).
  GIVEN WITH THE SEED: the statements are not yours to turn. If you find one false, say at which input.
  Laid BY PROGRAM, IN A SANDBOX (cutbox-rows.mjs): the forced cells as the released guide's own fill.sh prints them over the translation db1f85057cb0cd2d… (all of the seat's roots in one cut). By AI agents, Wed Nov 11 2026. No macro, syntax, notation, axiom, sorry.
-/
import Derived.Test.YtolpnlemaoabkaaDoorChecked
import GoSem.Claim
import GoSem.ClaimJoined
import GoSem.ClaimMapViews
import Derived.JoinedTies
import Derived.KernelRfl
namespace Go.Proofs.YtolpnlemaoabkaaDoor
/- THE CELL 'sum', in the pinned program and in every row, IS THE sha256 OF THE DUMP (.gsa) THAT YtolpnlemaoabkaaDoorProg.lean LOADS. Nothing in Lean hashes anything: it is a label: what it is worth is what the hold of that sum in a sandbox is worth. -/
noncomputable def Tryd.pinned : Pinned := { name := "ytolpnlemaoabkaadoor", sum := "db1f85057cb0cd2d3e4feb99887d46d46f7718e4eba51545e0f41900d97745a6", checked := Tryd.checked }
namespace Rows
def none {H : Type} : Left H := { results := [], args := [] }

/- WHAT THE LISTED PACKAGE-LEVEL VARIABLES READ AS WHEN THE CALL BEGINS. Each datum BY PROGRAM (the guide's laid-datum.mjs) off the statement by which the dump's own 'gosem.cut.vars' lays the variable. In a bare row this is a premise. The card (YtolpnlemaoabkaaDoorCards.lean) ties it to the program's text. -/
def laid_zoneappend_command_words {H : Type} : DataW H := .agg [.lit (.string []), .lit (.string [114, 101, 97, 100]), .lit (.string [119, 114, 105, 116, 101]), .lit (.string [116, 114, 105, 109]), .lit (.string [102, 108, 117, 115, 104])]

/-- 'zoneappendlaw15.CommandExact': WHATEVER THE INPUT: true; the input reads as it did. -/
def commandExactSpec : ChangeSpec := { name := "commandExact", fn := fun _ => fun
  | [d1, d2] => { results := [.lit (.bool true)], args := [d1, d2] }
  | _ => none }
def commandExactRow : OpenClaim := { program := "ytolpnlemaoabkaadoor", sum := "db1f85057cb0cd2d3e4feb99887d46d46f7718e4eba51545e0f41900d97745a6", func := "zoneappend/zoneappendlaw15.CommandExact", spec := "commandExact", inPlace := ["internal/abi.NoEscape", "internal/bytealg.MakeNoZero"], named := ["zoneappend/command.words"], apart := false, laid := [("zoneappend/command.words", laid_zoneappend_command_words)] }
def CommandExactSaid : Prop := commandExactRow.holds Tryd.pinned (OpenSpec.ofChange commandExactSpec)

/-- ITS FALSE NEIGHBOUR: 'it returns false'. Refute it at one input. -/
def commandExactWrong : ChangeSpec := { name := "commandExact", fn := fun _ => fun
  | [d1, d2] => { results := [.lit (.bool false)], args := [d1, d2] }
  | _ => none }
def CommandExactWrongFalsely : Prop := commandExactRow.holds Tryd.pinned (OpenSpec.ofChange commandExactWrong)

/-- 'zoneappendlaw15.CommandBlocks': WHATEVER THE INPUT: true; the input reads as it did. -/
def commandBlocksSpec : ChangeSpec := { name := "commandBlocks", fn := fun _ => fun
  | [d1, d2, d3, d4] => { results := [.lit (.bool true)], args := [d1, d2, d3, d4] }
  | _ => none }
def commandBlocksRow : OpenClaim := { program := "ytolpnlemaoabkaadoor", sum := "db1f85057cb0cd2d3e4feb99887d46d46f7718e4eba51545e0f41900d97745a6", func := "zoneappend/zoneappendlaw15.CommandBlocks", spec := "commandBlocks", inPlace := ["internal/abi.NoEscape", "internal/bytealg.MakeNoZero"], named := ["zoneappend/command.words"], apart := false, laid := [("zoneappend/command.words", laid_zoneappend_command_words)] }
def CommandBlocksSaid : Prop := commandBlocksRow.holds Tryd.pinned (OpenSpec.ofChange commandBlocksSpec)

/-- ITS FALSE NEIGHBOUR: 'it returns false'. Refute it at one input. -/
def commandBlocksWrong : ChangeSpec := { name := "commandBlocks", fn := fun _ => fun
  | [d1, d2, d3, d4] => { results := [.lit (.bool false)], args := [d1, d2, d3, d4] }
  | _ => none }
def CommandBlocksWrongFalsely : Prop := commandBlocksRow.holds Tryd.pinned (OpenSpec.ofChange commandBlocksWrong)

/- THE SECOND FORM. 'bulk': how many values and letters a reading holds, each counted each time it is reached (what is shared counts as often as it is met; a slice's spare places count too). A statement '..UptoSaid' is the law's where the arguments, and the package variables that the reading takes, are together of bulk at most 1048576: NARROWER than '..Said'. Prove '..Said' where nothing that the law and all that it calls make is longer than what came in: it says more and counts as full. Else prove '..UptoSaid'. A law counts once. -/
mutual
def uptoBulk {H : Type} : DataW H → Nat
  | .lit (.string bytes) => bytes.length + 1
  | .lit _ => 1
  | .nil => 1
  | .ptr d => uptoBulk d + 1
  | .slice elems spare => uptoBulkAll elems + uptoBulkAll spare + 1
  | .agg parts => uptoBulkAll parts + 1
  | .iface _ d => uptoBulk d + 1
  | .map entries => uptoBulkEntries entries + 1
  | .held _ => 1
def uptoBulkAll {H : Type} : List (DataW H) → Nat
  | [] => 0
  | d :: r => uptoBulk d + uptoBulkAll r
def uptoBulkEntries {H : Type} : List (Lit × DataW H) → Nat
  | [] => 0
  | x :: r => uptoBulkEntry x + uptoBulkEntries r
def uptoBulkEntry {H : Type} : Lit × DataW H → Nat
  | (.string bytes, d) => bytes.length + uptoBulk d + 1
  | (_, d) => uptoBulk d + 1
 end
def uptoSmall : (H : Type) → List (DataW H) → Bool := fun _ ds => decide (uptoBulkAll ds ≤ 1048576)
def OpenSpec.upto (s : _root_.Go.ChangeSpec) : _root_.Go.OpenSpec := { _root_.Go.OpenSpec.ofChange s with cond := some uptoSmall }

/-- 'zoneappendlaw15.CommandExact', WHERE WHAT IT READS IS OF BULK AT MOST 1048576: true; the input reads as it did. -/
def commandExactUptoRow : OpenClaim := { program := "ytolpnlemaoabkaadoor", sum := "db1f85057cb0cd2d3e4feb99887d46d46f7718e4eba51545e0f41900d97745a6", func := "zoneappend/zoneappendlaw15.CommandExact", spec := "commandExact", inPlace := ["internal/abi.NoEscape", "internal/bytealg.MakeNoZero"], named := ["zoneappend/command.words"], apart := false, laid := [("zoneappend/command.words", laid_zoneappend_command_words)], narrowed := true }
def CommandExactUptoSaid : Prop := commandExactUptoRow.holds Tryd.pinned (OpenSpec.upto commandExactSpec)

/-- 'zoneappendlaw15.CommandBlocks', WHERE WHAT IT READS IS OF BULK AT MOST 1048576: true; the input reads as it did. -/
def commandBlocksUptoRow : OpenClaim := { program := "ytolpnlemaoabkaadoor", sum := "db1f85057cb0cd2d3e4feb99887d46d46f7718e4eba51545e0f41900d97745a6", func := "zoneappend/zoneappendlaw15.CommandBlocks", spec := "commandBlocks", inPlace := ["internal/abi.NoEscape", "internal/bytealg.MakeNoZero"], named := ["zoneappend/command.words"], apart := false, laid := [("zoneappend/command.words", laid_zoneappend_command_words)], narrowed := true }
def CommandBlocksUptoSaid : Prop := commandBlocksUptoRow.holds Tryd.pinned (OpenSpec.upto commandBlocksSpec)

end Rows
end Go.Proofs.YtolpnlemaoabkaaDoor
