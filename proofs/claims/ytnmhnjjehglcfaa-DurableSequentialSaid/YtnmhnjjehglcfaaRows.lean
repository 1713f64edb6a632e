/-
  No cell of these rows narrows 'for every input' (looked for: loops, veiled, ifaces, maps, wideKeys, modest, calm, conditions, laid).
  DERIVED. THE GIVEN ROWS OF THIS SEAT. 3 by the template 'for every input the law returns true; each argument reads behind the call as it read before'; 0 by the template 'total and deterministic' (their statements: YtnmhnjjehglcfaaTotals.lean).
  GIVEN WITH THE SEED: the statements are not yours to turn. If you find one false, say at which input.
  Laid BY PROGRAM, IN A SANDBOX (cutbox-rows.mjs): the forced cells as the released guide's own fill.sh prints them over the translation 040f8d242cffeeaf… (all of the seat's roots in one cut). By AI agents, Wed Nov 11 2026. No macro, syntax, notation, axiom, sorry.
-/
import Derived.Test.YtnmhnjjehglcfaaChecked
import GoSem.Claim
import GoSem.ClaimJoined
import GoSem.ClaimMapViews
import Derived.JoinedTies
import Derived.KernelRfl
namespace Go.Proofs.Ytnmhnjjehglcfaa
/- THE CELL 'sum', in the pinned program and in every row, IS THE sha256 OF THE DUMP (.gsa) THAT YtnmhnjjehglcfaaProg.lean LOADS. Nothing in Lean hashes anything: it is a label: what it is worth is what the hold of that sum in a sandbox is worth. -/
noncomputable def Try.pinned : Pinned := { name := "ytnmhnjjehglcfaa", sum := "040f8d242cffeeafa125008c728150d3dfccc09cdc42ff89d9f48f35e2bfd2e8", checked := Try.checked }
namespace Rows
def none {H : Type} : Left H := { results := [], args := [] }

/-- 'zoneappendlaw20.DurableRaw': WHATEVER THE INPUT: true; the input reads as it did. -/
def durableRawSpec : ChangeSpec := { name := "durableRaw", fn := fun _ => fun
  | [d1, d2, d3, d4] => { results := [.lit (.bool true)], args := [d1, d2, d3, d4] }
  | _ => none }
def durableRawRow : OpenClaim := { program := "ytnmhnjjehglcfaa", sum := "040f8d242cffeeafa125008c728150d3dfccc09cdc42ff89d9f48f35e2bfd2e8", func := "zoneappend/zoneappendlaw20.DurableRaw", spec := "durableRaw", inPlace := ["internal/abi.NoEscape", "internal/bytealg.MakeNoZero"], unfollowed := true, recurses := true, apart := false }
def DurableRawSaid : Prop := durableRawRow.holds Try.pinned (OpenSpec.ofChange durableRawSpec)

/-- ITS FALSE NEIGHBOUR: 'it returns false'. Refute it at one input. -/
def durableRawWrong : ChangeSpec := { name := "durableRaw", fn := fun _ => fun
  | [d1, d2, d3, d4] => { results := [.lit (.bool false)], args := [d1, d2, d3, d4] }
  | _ => none }
def DurableRawWrongFalsely : Prop := durableRawRow.holds Try.pinned (OpenSpec.ofChange durableRawWrong)

/-- 'zoneappendlaw20.DurableSequential': WHATEVER THE INPUT: true; the input reads as it did. -/
def durableSequentialSpec : ChangeSpec := { name := "durableSequential", fn := fun _ => fun
  | [d] => { results := [.lit (.bool true)], args := [d] }
  | _ => none }
def durableSequentialRow : OpenClaim := { program := "ytnmhnjjehglcfaa", sum := "040f8d242cffeeafa125008c728150d3dfccc09cdc42ff89d9f48f35e2bfd2e8", func := "zoneappend/zoneappendlaw20.DurableSequential", spec := "durableSequential", inPlace := ["internal/abi.NoEscape", "internal/bytealg.MakeNoZero"], unfollowed := true, recurses := true, apart := false }
def DurableSequentialSaid : Prop := durableSequentialRow.holds Try.pinned (OpenSpec.ofChange durableSequentialSpec)

/-- ITS FALSE NEIGHBOUR: 'it returns false'. Refute it at one input. -/
def durableSequentialWrong : ChangeSpec := { name := "durableSequential", fn := fun _ => fun
  | [d] => { results := [.lit (.bool false)], args := [d] }
  | _ => none }
def DurableSequentialWrongFalsely : Prop := durableSequentialRow.holds Try.pinned (OpenSpec.ofChange durableSequentialWrong)

/-- 'zoneappendlaw20.DurableGrows': WHATEVER THE INPUT: true; the input reads as it did. -/
def durableGrowsSpec : ChangeSpec := { name := "durableGrows", fn := fun _ => fun
  | [d1, d2, d3] => { results := [.lit (.bool true)], args := [d1, d2, d3] }
  | _ => none }
def durableGrowsRow : OpenClaim := { program := "ytnmhnjjehglcfaa", sum := "040f8d242cffeeafa125008c728150d3dfccc09cdc42ff89d9f48f35e2bfd2e8", func := "zoneappend/zoneappendlaw20.DurableGrows", spec := "durableGrows", inPlace := ["internal/abi.NoEscape", "internal/bytealg.MakeNoZero"], unfollowed := true, recurses := true, apart := false }
def DurableGrowsSaid : Prop := durableGrowsRow.holds Try.pinned (OpenSpec.ofChange durableGrowsSpec)

/-- ITS FALSE NEIGHBOUR: 'it returns false'. Refute it at one input. -/
def durableGrowsWrong : ChangeSpec := { name := "durableGrows", fn := fun _ => fun
  | [d1, d2, d3] => { results := [.lit (.bool false)], args := [d1, d2, d3] }
  | _ => none }
def DurableGrowsWrongFalsely : Prop := durableGrowsRow.holds Try.pinned (OpenSpec.ofChange durableGrowsWrong)

/- THE SECOND FORM. 'bulk': how many values and letters a reading holds, each counted each time it is reached (what is shared counts as often as it is met; a slice's spare places count too). A statement '..UptoSaid' is the law's where the arguments, and the package variables that the reading takes, are together of bulk at most 1048576: NARROWER than '..Said'. Prove '..Said' where nothing that the law and all that it calls make is longer than what came in: it says more and counts as full. Else prove '..UptoSaid'. A law counts once. -/
mutual
def uptoBulk {H : Type} : DataW H → Nat
  | .lit (.string bytes) => bytes.length + 1
  | .lit _ => 1
  | .nil => 1
  | .ptr d => uptoBulk d + 1
  | .slice elems spare => uptoBulkAll elems + uptoBulkAll spare + 1
  | .agg parts => uptoBulkAll parts + 1
  | .iface _ d => uptoBulk d + 1
  | .map entries => uptoBulkEntries entries + 1
  | .held _ => 1
def uptoBulkAll {H : Type} : List (DataW H) → Nat
  | [] => 0
  | d :: r => uptoBulk d + uptoBulkAll r
def uptoBulkEntries {H : Type} : List (Lit × DataW H) → Nat
  | [] => 0
  | x :: r => uptoBulkEntry x + uptoBulkEntries r
def uptoBulkEntry {H : Type} : Lit × DataW H → Nat
  | (.string bytes, d) => bytes.length + uptoBulk d + 1
  | (_, d) => uptoBulk d + 1
 end
def uptoSmall : (H : Type) → List (DataW H) → Bool := fun _ ds => decide (uptoBulkAll ds ≤ 1048576)
def OpenSpec.upto (s : _root_.Go.ChangeSpec) : _root_.Go.OpenSpec := { _root_.Go.OpenSpec.ofChange s with cond := some uptoSmall }

/-- 'zoneappendlaw20.DurableRaw', WHERE WHAT IT READS IS OF BULK AT MOST 1048576: true; the input reads as it did. -/
def durableRawUptoRow : OpenClaim := { program := "ytnmhnjjehglcfaa", sum := "040f8d242cffeeafa125008c728150d3dfccc09cdc42ff89d9f48f35e2bfd2e8", func := "zoneappend/zoneappendlaw20.DurableRaw", spec := "durableRaw", inPlace := ["internal/abi.NoEscape", "internal/bytealg.MakeNoZero"], unfollowed := true, recurses := true, apart := false, narrowed := true }
def DurableRawUptoSaid : Prop := durableRawUptoRow.holds Try.pinned (OpenSpec.upto durableRawSpec)

/-- 'zoneappendlaw20.DurableSequential', WHERE WHAT IT READS IS OF BULK AT MOST 1048576: true; the input reads as it did. -/
def durableSequentialUptoRow : OpenClaim := { program := "ytnmhnjjehglcfaa", sum := "040f8d242cffeeafa125008c728150d3dfccc09cdc42ff89d9f48f35e2bfd2e8", func := "zoneappend/zoneappendlaw20.DurableSequential", spec := "durableSequential", inPlace := ["internal/abi.NoEscape", "internal/bytealg.MakeNoZero"], unfollowed := true, recurses := true, apart := false, narrowed := true }
def DurableSequentialUptoSaid : Prop := durableSequentialUptoRow.holds Try.pinned (OpenSpec.upto durableSequentialSpec)

/-- 'zoneappendlaw20.DurableGrows', WHERE WHAT IT READS IS OF BULK AT MOST 1048576: true; the input reads as it did. -/
def durableGrowsUptoRow : OpenClaim := { program := "ytnmhnjjehglcfaa", sum := "040f8d242cffeeafa125008c728150d3dfccc09cdc42ff89d9f48f35e2bfd2e8", func := "zoneappend/zoneappendlaw20.DurableGrows", spec := "durableGrows", inPlace := ["internal/abi.NoEscape", "internal/bytealg.MakeNoZero"], unfollowed := true, recurses := true, apart := false, narrowed := true }
def DurableGrowsUptoSaid : Prop := durableGrowsUptoRow.holds Try.pinned (OpenSpec.upto durableGrowsSpec)

end Rows
end Go.Proofs.Ytnmhnjjehglcfaa
