/-
  No cell of these rows narrows 'for every input' (looked for: loops, veiled, ifaces, maps, wideKeys, modest, calm, conditions, laid).
  DERIVED. THE GIVEN ROWS OF THIS SEAT. 3 by the template 'for every input the law returns true; each argument reads behind the call as it read before'; 0 by the template 'total and deterministic' (their statements: YtjihkcjoaefppaaTotals.lean).
  GIVEN WITH THE SEED: the statements are not yours to turn. If you find one false, say at which input.
  Laid BY PROGRAM, IN A SANDBOX (cutbox-rows.mjs): the forced cells as the released guide's own fill.sh prints them over the translation 406c4f7bbc533768… (all of the seat's roots in one cut). By AI agents, Wed Nov 11 2026. No macro, syntax, notation, axiom, sorry.
-/
import Derived.Test.YtjihkcjoaefppaaChecked
import GoSem.Claim
import GoSem.ClaimJoined
import GoSem.ClaimMapViews
import Derived.JoinedTies
import Derived.KernelRfl
namespace Go.Proofs.Ytjihkcjoaefppaa
/- THE CELL 'sum', in the pinned program and in every row, IS THE sha256 OF THE DUMP (.gsa) THAT YtjihkcjoaefppaaProg.lean LOADS. Nothing in Lean hashes anything: it is a label: what it is worth is what the hold of that sum in a sandbox is worth. -/
noncomputable def Try.pinned : Pinned := { name := "ytjihkcjoaefppaa", sum := "406c4f7bbc533768d429328a58637c295666059a5d54af0c66526fbccb9c872b", checked := Try.checked }
namespace Rows
def none {H : Type} : Left H := { results := [], args := [] }

/-- 'zoneappendlaw04.SummaryExact': WHATEVER THE INPUT: true; the input reads as it did. -/
def summaryExactSpec : ChangeSpec := { name := "summaryExact", fn := fun _ => fun
  | [d1, d2] => { results := [.lit (.bool true)], args := [d1, d2] }
  | _ => none }
def summaryExactRow : OpenClaim := { program := "ytjihkcjoaefppaa", sum := "406c4f7bbc533768d429328a58637c295666059a5d54af0c66526fbccb9c872b", func := "zoneappend/zoneappendlaw04.SummaryExact", spec := "summaryExact", inPlace := ["internal/abi.NoEscape", "internal/bytealg.MakeNoZero"], unfollowed := true, recurses := true, apart := false }
def SummaryExactSaid : Prop := summaryExactRow.holds Try.pinned (OpenSpec.ofChange summaryExactSpec)

/-- ITS FALSE NEIGHBOUR: 'it returns false'. Refute it at one input. -/
def summaryExactWrong : ChangeSpec := { name := "summaryExact", fn := fun _ => fun
  | [d1, d2] => { results := [.lit (.bool false)], args := [d1, d2] }
  | _ => none }
def SummaryExactWrongFalsely : Prop := summaryExactRow.holds Try.pinned (OpenSpec.ofChange summaryExactWrong)

/-- 'zoneappendlaw04.SummaryMade': WHATEVER THE INPUT: true; the input reads as it did. -/
def summaryMadeSpec : ChangeSpec := { name := "summaryMade", fn := fun _ => fun
  | [d1, d2, d3, d4] => { results := [.lit (.bool true)], args := [d1, d2, d3, d4] }
  | _ => none }
def summaryMadeRow : OpenClaim := { program := "ytjihkcjoaefppaa", sum := "406c4f7bbc533768d429328a58637c295666059a5d54af0c66526fbccb9c872b", func := "zoneappend/zoneappendlaw04.SummaryMade", spec := "summaryMade", inPlace := ["internal/abi.NoEscape", "internal/bytealg.MakeNoZero"], unfollowed := true, recurses := true, apart := false }
def SummaryMadeSaid : Prop := summaryMadeRow.holds Try.pinned (OpenSpec.ofChange summaryMadeSpec)

/-- ITS FALSE NEIGHBOUR: 'it returns false'. Refute it at one input. -/
def summaryMadeWrong : ChangeSpec := { name := "summaryMade", fn := fun _ => fun
  | [d1, d2, d3, d4] => { results := [.lit (.bool false)], args := [d1, d2, d3, d4] }
  | _ => none }
def SummaryMadeWrongFalsely : Prop := summaryMadeRow.holds Try.pinned (OpenSpec.ofChange summaryMadeWrong)

/-- 'zoneappendlaw04.SummaryChanged': WHATEVER THE INPUT: true; the input reads as it did. -/
def summaryChangedSpec : ChangeSpec := { name := "summaryChanged", fn := fun _ => fun
  | [d1, d2, d3, d4] => { results := [.lit (.bool true)], args := [d1, d2, d3, d4] }
  | _ => none }
def summaryChangedRow : OpenClaim := { program := "ytjihkcjoaefppaa", sum := "406c4f7bbc533768d429328a58637c295666059a5d54af0c66526fbccb9c872b", func := "zoneappend/zoneappendlaw04.SummaryChanged", spec := "summaryChanged", inPlace := ["internal/abi.NoEscape", "internal/bytealg.MakeNoZero"], unfollowed := true, recurses := true, apart := false }
def SummaryChangedSaid : Prop := summaryChangedRow.holds Try.pinned (OpenSpec.ofChange summaryChangedSpec)

/-- ITS FALSE NEIGHBOUR: 'it returns false'. Refute it at one input. -/
def summaryChangedWrong : ChangeSpec := { name := "summaryChanged", fn := fun _ => fun
  | [d1, d2, d3, d4] => { results := [.lit (.bool false)], args := [d1, d2, d3, d4] }
  | _ => none }
def SummaryChangedWrongFalsely : Prop := summaryChangedRow.holds Try.pinned (OpenSpec.ofChange summaryChangedWrong)

/- THE SECOND FORM. 'bulk': how many values and letters a reading holds, each counted each time it is reached (what is shared counts as often as it is met; a slice's spare places count too). A statement '..UptoSaid' is the law's where the arguments, and the package variables that the reading takes, are together of bulk at most 1048576: NARROWER than '..Said'. Prove '..Said' where nothing that the law and all that it calls make is longer than what came in: it says more and counts as full. Else prove '..UptoSaid'. A law counts once. -/
mutual
def uptoBulk {H : Type} : DataW H → Nat
  | .lit (.string bytes) => bytes.length + 1
  | .lit _ => 1
  | .nil => 1
  | .ptr d => uptoBulk d + 1
  | .slice elems spare => uptoBulkAll elems + uptoBulkAll spare + 1
  | .agg parts => uptoBulkAll parts + 1
  | .iface _ d => uptoBulk d + 1
  | .map entries => uptoBulkEntries entries + 1
  | .held _ => 1
def uptoBulkAll {H : Type} : List (DataW H) → Nat
  | [] => 0
  | d :: r => uptoBulk d + uptoBulkAll r
def uptoBulkEntries {H : Type} : List (Lit × DataW H) → Nat
  | [] => 0
  | x :: r => uptoBulkEntry x + uptoBulkEntries r
def uptoBulkEntry {H : Type} : Lit × DataW H → Nat
  | (.string bytes, d) => bytes.length + uptoBulk d + 1
  | (_, d) => uptoBulk d + 1
 end
def uptoSmall : (H : Type) → List (DataW H) → Bool := fun _ ds => decide (uptoBulkAll ds ≤ 1048576)
def OpenSpec.upto (s : _root_.Go.ChangeSpec) : _root_.Go.OpenSpec := { _root_.Go.OpenSpec.ofChange s with cond := some uptoSmall }

/-- 'zoneappendlaw04.SummaryExact', WHERE WHAT IT READS IS OF BULK AT MOST 1048576: true; the input reads as it did. -/
def summaryExactUptoRow : OpenClaim := { program := "ytjihkcjoaefppaa", sum := "406c4f7bbc533768d429328a58637c295666059a5d54af0c66526fbccb9c872b", func := "zoneappend/zoneappendlaw04.SummaryExact", spec := "summaryExact", inPlace := ["internal/abi.NoEscape", "internal/bytealg.MakeNoZero"], unfollowed := true, recurses := true, apart := false, narrowed := true }
def SummaryExactUptoSaid : Prop := summaryExactUptoRow.holds Try.pinned (OpenSpec.upto summaryExactSpec)

/-- 'zoneappendlaw04.SummaryMade', WHERE WHAT IT READS IS OF BULK AT MOST 1048576: true; the input reads as it did. -/
def summaryMadeUptoRow : OpenClaim := { program := "ytjihkcjoaefppaa", sum := "406c4f7bbc533768d429328a58637c295666059a5d54af0c66526fbccb9c872b", func := "zoneappend/zoneappendlaw04.SummaryMade", spec := "summaryMade", inPlace := ["internal/abi.NoEscape", "internal/bytealg.MakeNoZero"], unfollowed := true, recurses := true, apart := false, narrowed := true }
def SummaryMadeUptoSaid : Prop := summaryMadeUptoRow.holds Try.pinned (OpenSpec.upto summaryMadeSpec)

/-- 'zoneappendlaw04.SummaryChanged', WHERE WHAT IT READS IS OF BULK AT MOST 1048576: true; the input reads as it did. -/
def summaryChangedUptoRow : OpenClaim := { program := "ytjihkcjoaefppaa", sum := "406c4f7bbc533768d429328a58637c295666059a5d54af0c66526fbccb9c872b", func := "zoneappend/zoneappendlaw04.SummaryChanged", spec := "summaryChanged", inPlace := ["internal/abi.NoEscape", "internal/bytealg.MakeNoZero"], unfollowed := true, recurses := true, apart := false, narrowed := true }
def SummaryChangedUptoSaid : Prop := summaryChangedUptoRow.holds Try.pinned (OpenSpec.upto summaryChangedSpec)

end Rows
end Go.Proofs.Ytjihkcjoaefppaa
