/-
  No cell of these rows narrows 'for every input' (looked for: loops, veiled, ifaces, maps, wideKeys, modest, calm, conditions, laid).
  DERIVED. THE GIVEN ROWS OF THIS SEAT. 5 by the template 'for every input the law returns true; each argument reads behind the call as it read before'; 0 by the template 'total and deterministic' (their statements: YthpfkmdnpfgjlaaTotals.lean).
  GIVEN WITH THE SEED: the statements are not yours to turn. If you find one false, say at which input.
  Laid BY PROGRAM, IN A SANDBOX (cutbox-rows.mjs): the forced cells as the released guide's own fill.sh prints them over the translation 665db92c3cc1b434… (all of the seat's roots in one cut). By AI agents, Wed Nov 11 2026. No macro, syntax, notation, axiom, sorry.
-/
import Derived.Test.YthpfkmdnpfgjlaaChecked
import GoSem.Claim
import GoSem.ClaimJoined
import GoSem.ClaimMapViews
import Derived.JoinedTies
import Derived.KernelRfl
namespace Go.Proofs.Ythpfkmdnpfgjlaa
/- THE CELL 'sum', in the pinned program and in every row, IS THE sha256 OF THE DUMP (.gsa) THAT YthpfkmdnpfgjlaaProg.lean LOADS. Nothing in Lean hashes anything: it is a label: what it is worth is what the hold of that sum in a sandbox is worth. -/
noncomputable def Try.pinned : Pinned := { name := "ythpfkmdnpfgjlaa", sum := "665db92c3cc1b43498bdce586d2d0b6b0657648f46b95f3eae7d7f0d5187d009", checked := Try.checked }
namespace Rows
def none {H : Type} : Left H := { results := [], args := [] }

/-- 'zoneappendlaw03.RecordExact': WHATEVER THE INPUT: true; the input reads as it did. -/
def recordExactSpec : ChangeSpec := { name := "recordExact", fn := fun _ => fun
  | [d] => { results := [.lit (.bool true)], args := [d] }
  | _ => none }
def recordExactRow : OpenClaim := { program := "ythpfkmdnpfgjlaa", sum := "665db92c3cc1b43498bdce586d2d0b6b0657648f46b95f3eae7d7f0d5187d009", func := "zoneappend/zoneappendlaw03.RecordExact", spec := "recordExact", inPlace := ["internal/abi.NoEscape", "internal/bytealg.MakeNoZero"], apart := false }
def RecordExactSaid : Prop := recordExactRow.holds Try.pinned (OpenSpec.ofChange recordExactSpec)

/-- ITS FALSE NEIGHBOUR: 'it returns false'. Refute it at one input. -/
def recordExactWrong : ChangeSpec := { name := "recordExact", fn := fun _ => fun
  | [d] => { results := [.lit (.bool false)], args := [d] }
  | _ => none }
def RecordExactWrongFalsely : Prop := recordExactRow.holds Try.pinned (OpenSpec.ofChange recordExactWrong)

/-- 'zoneappendlaw03.RecordDecodes': WHATEVER THE INPUT: true; the input reads as it did. -/
def recordDecodesSpec : ChangeSpec := { name := "recordDecodes", fn := fun _ => fun
  | [d] => { results := [.lit (.bool true)], args := [d] }
  | _ => none }
def recordDecodesRow : OpenClaim := { program := "ythpfkmdnpfgjlaa", sum := "665db92c3cc1b43498bdce586d2d0b6b0657648f46b95f3eae7d7f0d5187d009", func := "zoneappend/zoneappendlaw03.RecordDecodes", spec := "recordDecodes", inPlace := ["internal/abi.NoEscape", "internal/bytealg.MakeNoZero"], apart := false }
def RecordDecodesSaid : Prop := recordDecodesRow.holds Try.pinned (OpenSpec.ofChange recordDecodesSpec)

/-- ITS FALSE NEIGHBOUR: 'it returns false'. Refute it at one input. -/
def recordDecodesWrong : ChangeSpec := { name := "recordDecodes", fn := fun _ => fun
  | [d] => { results := [.lit (.bool false)], args := [d] }
  | _ => none }
def RecordDecodesWrongFalsely : Prop := recordDecodesRow.holds Try.pinned (OpenSpec.ofChange recordDecodesWrong)

/-- 'zoneappendlaw03.RecordBack': WHATEVER THE INPUT: true; the input reads as it did. -/
def recordBackSpec : ChangeSpec := { name := "recordBack", fn := fun _ => fun
  | [d1, d2, d3] => { results := [.lit (.bool true)], args := [d1, d2, d3] }
  | _ => none }
def recordBackRow : OpenClaim := { program := "ythpfkmdnpfgjlaa", sum := "665db92c3cc1b43498bdce586d2d0b6b0657648f46b95f3eae7d7f0d5187d009", func := "zoneappend/zoneappendlaw03.RecordBack", spec := "recordBack", inPlace := ["internal/abi.NoEscape", "internal/bytealg.MakeNoZero"], apart := false }
def RecordBackSaid : Prop := recordBackRow.holds Try.pinned (OpenSpec.ofChange recordBackSpec)

/-- ITS FALSE NEIGHBOUR: 'it returns false'. Refute it at one input. -/
def recordBackWrong : ChangeSpec := { name := "recordBack", fn := fun _ => fun
  | [d1, d2, d3] => { results := [.lit (.bool false)], args := [d1, d2, d3] }
  | _ => none }
def RecordBackWrongFalsely : Prop := recordBackRow.holds Try.pinned (OpenSpec.ofChange recordBackWrong)

/-- 'zoneappendlaw03.RecordSealed': WHATEVER THE INPUT: true; the input reads as it did. -/
def recordSealedSpec : ChangeSpec := { name := "recordSealed", fn := fun _ => fun
  | [d1, d2, d3] => { results := [.lit (.bool true)], args := [d1, d2, d3] }
  | _ => none }
def recordSealedRow : OpenClaim := { program := "ythpfkmdnpfgjlaa", sum := "665db92c3cc1b43498bdce586d2d0b6b0657648f46b95f3eae7d7f0d5187d009", func := "zoneappend/zoneappendlaw03.RecordSealed", spec := "recordSealed", inPlace := ["internal/abi.NoEscape", "internal/bytealg.MakeNoZero"], apart := false }
def RecordSealedSaid : Prop := recordSealedRow.holds Try.pinned (OpenSpec.ofChange recordSealedSpec)

/-- ITS FALSE NEIGHBOUR: 'it returns false'. Refute it at one input. -/
def recordSealedWrong : ChangeSpec := { name := "recordSealed", fn := fun _ => fun
  | [d1, d2, d3] => { results := [.lit (.bool false)], args := [d1, d2, d3] }
  | _ => none }
def RecordSealedWrongFalsely : Prop := recordSealedRow.holds Try.pinned (OpenSpec.ofChange recordSealedWrong)

/-- 'zoneappendlaw03.RecordCopies': WHATEVER THE INPUT: true; the input reads as it did. -/
def recordCopiesSpec : ChangeSpec := { name := "recordCopies", fn := fun _ => fun
  | [d1, d2] => { results := [.lit (.bool true)], args := [d1, d2] }
  | _ => none }
def recordCopiesRow : OpenClaim := { program := "ythpfkmdnpfgjlaa", sum := "665db92c3cc1b43498bdce586d2d0b6b0657648f46b95f3eae7d7f0d5187d009", func := "zoneappend/zoneappendlaw03.RecordCopies", spec := "recordCopies", inPlace := ["internal/abi.NoEscape", "internal/bytealg.MakeNoZero"], apart := false }
def RecordCopiesSaid : Prop := recordCopiesRow.holds Try.pinned (OpenSpec.ofChange recordCopiesSpec)

/-- ITS FALSE NEIGHBOUR: 'it returns false'. Refute it at one input. -/
def recordCopiesWrong : ChangeSpec := { name := "recordCopies", fn := fun _ => fun
  | [d1, d2] => { results := [.lit (.bool false)], args := [d1, d2] }
  | _ => none }
def RecordCopiesWrongFalsely : Prop := recordCopiesRow.holds Try.pinned (OpenSpec.ofChange recordCopiesWrong)

/- THE SECOND FORM. 'bulk': how many values and letters a reading holds, each counted each time it is reached (what is shared counts as often as it is met; a slice's spare places count too). A statement '..UptoSaid' is the law's where the arguments, and the package variables that the reading takes, are together of bulk at most 1048576: NARROWER than '..Said'. Prove '..Said' where nothing that the law and all that it calls make is longer than what came in: it says more and counts as full. Else prove '..UptoSaid'. A law counts once. -/
mutual
def uptoBulk {H : Type} : DataW H → Nat
  | .lit (.string bytes) => bytes.length + 1
  | .lit _ => 1
  | .nil => 1
  | .ptr d => uptoBulk d + 1
  | .slice elems spare => uptoBulkAll elems + uptoBulkAll spare + 1
  | .agg parts => uptoBulkAll parts + 1
  | .iface _ d => uptoBulk d + 1
  | .map entries => uptoBulkEntries entries + 1
  | .held _ => 1
def uptoBulkAll {H : Type} : List (DataW H) → Nat
  | [] => 0
  | d :: r => uptoBulk d + uptoBulkAll r
def uptoBulkEntries {H : Type} : List (Lit × DataW H) → Nat
  | [] => 0
  | x :: r => uptoBulkEntry x + uptoBulkEntries r
def uptoBulkEntry {H : Type} : Lit × DataW H → Nat
  | (.string bytes, d) => bytes.length + uptoBulk d + 1
  | (_, d) => uptoBulk d + 1
 end
def uptoSmall : (H : Type) → List (DataW H) → Bool := fun _ ds => decide (uptoBulkAll ds ≤ 1048576)
def OpenSpec.upto (s : _root_.Go.ChangeSpec) : _root_.Go.OpenSpec := { _root_.Go.OpenSpec.ofChange s with cond := some uptoSmall }

/-- 'zoneappendlaw03.RecordExact', WHERE WHAT IT READS IS OF BULK AT MOST 1048576: true; the input reads as it did. -/
def recordExactUptoRow : OpenClaim := { program := "ythpfkmdnpfgjlaa", sum := "665db92c3cc1b43498bdce586d2d0b6b0657648f46b95f3eae7d7f0d5187d009", func := "zoneappend/zoneappendlaw03.RecordExact", spec := "recordExact", inPlace := ["internal/abi.NoEscape", "internal/bytealg.MakeNoZero"], apart := false, narrowed := true }
def RecordExactUptoSaid : Prop := recordExactUptoRow.holds Try.pinned (OpenSpec.upto recordExactSpec)

/-- 'zoneappendlaw03.RecordDecodes', WHERE WHAT IT READS IS OF BULK AT MOST 1048576: true; the input reads as it did. -/
def recordDecodesUptoRow : OpenClaim := { program := "ythpfkmdnpfgjlaa", sum := "665db92c3cc1b43498bdce586d2d0b6b0657648f46b95f3eae7d7f0d5187d009", func := "zoneappend/zoneappendlaw03.RecordDecodes", spec := "recordDecodes", inPlace := ["internal/abi.NoEscape", "internal/bytealg.MakeNoZero"], apart := false, narrowed := true }
def RecordDecodesUptoSaid : Prop := recordDecodesUptoRow.holds Try.pinned (OpenSpec.upto recordDecodesSpec)

/-- 'zoneappendlaw03.RecordBack', WHERE WHAT IT READS IS OF BULK AT MOST 1048576: true; the input reads as it did. -/
def recordBackUptoRow : OpenClaim := { program := "ythpfkmdnpfgjlaa", sum := "665db92c3cc1b43498bdce586d2d0b6b0657648f46b95f3eae7d7f0d5187d009", func := "zoneappend/zoneappendlaw03.RecordBack", spec := "recordBack", inPlace := ["internal/abi.NoEscape", "internal/bytealg.MakeNoZero"], apart := false, narrowed := true }
def RecordBackUptoSaid : Prop := recordBackUptoRow.holds Try.pinned (OpenSpec.upto recordBackSpec)

/-- 'zoneappendlaw03.RecordSealed', WHERE WHAT IT READS IS OF BULK AT MOST 1048576: true; the input reads as it did. -/
def recordSealedUptoRow : OpenClaim := { program := "ythpfkmdnpfgjlaa", sum := "665db92c3cc1b43498bdce586d2d0b6b0657648f46b95f3eae7d7f0d5187d009", func := "zoneappend/zoneappendlaw03.RecordSealed", spec := "recordSealed", inPlace := ["internal/abi.NoEscape", "internal/bytealg.MakeNoZero"], apart := false, narrowed := true }
def RecordSealedUptoSaid : Prop := recordSealedUptoRow.holds Try.pinned (OpenSpec.upto recordSealedSpec)

/-- 'zoneappendlaw03.RecordCopies', WHERE WHAT IT READS IS OF BULK AT MOST 1048576: true; the input reads as it did. -/
def recordCopiesUptoRow : OpenClaim := { program := "ythpfkmdnpfgjlaa", sum := "665db92c3cc1b43498bdce586d2d0b6b0657648f46b95f3eae7d7f0d5187d009", func := "zoneappend/zoneappendlaw03.RecordCopies", spec := "recordCopies", inPlace := ["internal/abi.NoEscape", "internal/bytealg.MakeNoZero"], apart := false, narrowed := true }
def RecordCopiesUptoSaid : Prop := recordCopiesUptoRow.holds Try.pinned (OpenSpec.upto recordCopiesSpec)

end Rows
end Go.Proofs.Ythpfkmdnpfgjlaa
