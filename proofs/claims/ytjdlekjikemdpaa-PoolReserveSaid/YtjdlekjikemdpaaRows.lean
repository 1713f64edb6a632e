/-
  No cell of these rows narrows 'for every input' (looked for: loops, veiled, ifaces, maps, wideKeys, modest, calm, conditions, laid).
  DERIVED. THE GIVEN ROWS OF THIS SEAT. 3 by the template 'for every input the law returns true; each argument reads behind the call as it read before'; 0 by the template 'total and deterministic' (their statements: YtjdlekjikemdpaaTotals.lean).
  GIVEN WITH THE SEED: the statements are not yours to turn. If you find one false, say at which input.
  Laid BY PROGRAM, IN A SANDBOX (cutbox-rows.mjs): the forced cells as the released guide's own fill.sh prints them over the translation f4a86747602a555f… (all of the seat's roots in one cut). By AI agents, Wed Nov 11 2026. No macro, syntax, notation, axiom, sorry.
-/
import Derived.Test.YtjdlekjikemdpaaChecked
import GoSem.Claim
import GoSem.ClaimJoined
import GoSem.ClaimMapViews
import Derived.JoinedTies
import Derived.KernelRfl
namespace Go.Proofs.Ytjdlekjikemdpaa
/- THE CELL 'sum', in the pinned program and in every row, IS THE sha256 OF THE DUMP (.gsa) THAT YtjdlekjikemdpaaProg.lean LOADS. Nothing in Lean hashes anything: it is a label: what it is worth is what the hold of that sum in a sandbox is worth. -/
noncomputable def Try.pinned : Pinned := { name := "ytjdlekjikemdpaa", sum := "f4a86747602a555f02f2f0317681761e3302a85651ecbbce7859b2d684e9d135", checked := Try.checked }
namespace Rows
def none {H : Type} : Left H := { results := [], args := [] }

/-- 'zoneappendlaw13.PoolRaw': WHATEVER THE INPUT: true; the input reads as it did. -/
def poolRawSpec : ChangeSpec := { name := "poolRaw", fn := fun _ => fun
  | [d1, d2, d3, d4] => { results := [.lit (.bool true)], args := [d1, d2, d3, d4] }
  | _ => none }
def poolRawRow : OpenClaim := { program := "ytjdlekjikemdpaa", sum := "f4a86747602a555f02f2f0317681761e3302a85651ecbbce7859b2d684e9d135", func := "zoneappend/zoneappendlaw13.PoolRaw", spec := "poolRaw", inPlace := ["slices.overlaps[int]"], apart := false }
def PoolRawSaid : Prop := poolRawRow.holds Try.pinned (OpenSpec.ofChange poolRawSpec)

/-- ITS FALSE NEIGHBOUR: 'it returns false'. Refute it at one input. -/
def poolRawWrong : ChangeSpec := { name := "poolRaw", fn := fun _ => fun
  | [d1, d2, d3, d4] => { results := [.lit (.bool false)], args := [d1, d2, d3, d4] }
  | _ => none }
def PoolRawWrongFalsely : Prop := poolRawRow.holds Try.pinned (OpenSpec.ofChange poolRawWrong)

/-- 'zoneappendlaw13.PoolSteps': WHATEVER THE INPUT: true; the input reads as it did. -/
def poolStepsSpec : ChangeSpec := { name := "poolSteps", fn := fun _ => fun
  | [d1, d2] => { results := [.lit (.bool true)], args := [d1, d2] }
  | _ => none }
def poolStepsRow : OpenClaim := { program := "ytjdlekjikemdpaa", sum := "f4a86747602a555f02f2f0317681761e3302a85651ecbbce7859b2d684e9d135", func := "zoneappend/zoneappendlaw13.PoolSteps", spec := "poolSteps", inPlace := ["slices.overlaps[int]"], apart := false }
def PoolStepsSaid : Prop := poolStepsRow.holds Try.pinned (OpenSpec.ofChange poolStepsSpec)

/-- ITS FALSE NEIGHBOUR: 'it returns false'. Refute it at one input. -/
def poolStepsWrong : ChangeSpec := { name := "poolSteps", fn := fun _ => fun
  | [d1, d2] => { results := [.lit (.bool false)], args := [d1, d2] }
  | _ => none }
def PoolStepsWrongFalsely : Prop := poolStepsRow.holds Try.pinned (OpenSpec.ofChange poolStepsWrong)

/-- 'zoneappendlaw13.PoolReserve': WHATEVER THE INPUT: true; the input reads as it did. -/
def poolReserveSpec : ChangeSpec := { name := "poolReserve", fn := fun _ => fun
  | [d] => { results := [.lit (.bool true)], args := [d] }
  | _ => none }
def poolReserveRow : OpenClaim := { program := "ytjdlekjikemdpaa", sum := "f4a86747602a555f02f2f0317681761e3302a85651ecbbce7859b2d684e9d135", func := "zoneappend/zoneappendlaw13.PoolReserve", spec := "poolReserve", inPlace := ["slices.overlaps[int]"], apart := false }
def PoolReserveSaid : Prop := poolReserveRow.holds Try.pinned (OpenSpec.ofChange poolReserveSpec)

/-- ITS FALSE NEIGHBOUR: 'it returns false'. Refute it at one input. -/
def poolReserveWrong : ChangeSpec := { name := "poolReserve", fn := fun _ => fun
  | [d] => { results := [.lit (.bool false)], args := [d] }
  | _ => none }
def PoolReserveWrongFalsely : Prop := poolReserveRow.holds Try.pinned (OpenSpec.ofChange poolReserveWrong)

/- THE SECOND FORM. 'bulk': how many values and letters a reading holds, each counted each time it is reached (what is shared counts as often as it is met; a slice's spare places count too). A statement '..UptoSaid' is the law's where the arguments, and the package variables that the reading takes, are together of bulk at most 1048576: NARROWER than '..Said'. Prove '..Said' where nothing that the law and all that it calls make is longer than what came in: it says more and counts as full. Else prove '..UptoSaid'. A law counts once. -/
mutual
def uptoBulk {H : Type} : DataW H → Nat
  | .lit (.string bytes) => bytes.length + 1
  | .lit _ => 1
  | .nil => 1
  | .ptr d => uptoBulk d + 1
  | .slice elems spare => uptoBulkAll elems + uptoBulkAll spare + 1
  | .agg parts => uptoBulkAll parts + 1
  | .iface _ d => uptoBulk d + 1
  | .map entries => uptoBulkEntries entries + 1
  | .held _ => 1
def uptoBulkAll {H : Type} : List (DataW H) → Nat
  | [] => 0
  | d :: r => uptoBulk d + uptoBulkAll r
def uptoBulkEntries {H : Type} : List (Lit × DataW H) → Nat
  | [] => 0
  | x :: r => uptoBulkEntry x + uptoBulkEntries r
def uptoBulkEntry {H : Type} : Lit × DataW H → Nat
  | (.string bytes, d) => bytes.length + uptoBulk d + 1
  | (_, d) => uptoBulk d + 1
 end
def uptoSmall : (H : Type) → List (DataW H) → Bool := fun _ ds => decide (uptoBulkAll ds ≤ 1048576)
def OpenSpec.upto (s : _root_.Go.ChangeSpec) : _root_.Go.OpenSpec := { _root_.Go.OpenSpec.ofChange s with cond := some uptoSmall }

/-- 'zoneappendlaw13.PoolRaw', WHERE WHAT IT READS IS OF BULK AT MOST 1048576: true; the input reads as it did. -/
def poolRawUptoRow : OpenClaim := { program := "ytjdlekjikemdpaa", sum := "f4a86747602a555f02f2f0317681761e3302a85651ecbbce7859b2d684e9d135", func := "zoneappend/zoneappendlaw13.PoolRaw", spec := "poolRaw", inPlace := ["slices.overlaps[int]"], apart := false, narrowed := true }
def PoolRawUptoSaid : Prop := poolRawUptoRow.holds Try.pinned (OpenSpec.upto poolRawSpec)

/-- 'zoneappendlaw13.PoolSteps', WHERE WHAT IT READS IS OF BULK AT MOST 1048576: true; the input reads as it did. -/
def poolStepsUptoRow : OpenClaim := { program := "ytjdlekjikemdpaa", sum := "f4a86747602a555f02f2f0317681761e3302a85651ecbbce7859b2d684e9d135", func := "zoneappend/zoneappendlaw13.PoolSteps", spec := "poolSteps", inPlace := ["slices.overlaps[int]"], apart := false, narrowed := true }
def PoolStepsUptoSaid : Prop := poolStepsUptoRow.holds Try.pinned (OpenSpec.upto poolStepsSpec)

/-- 'zoneappendlaw13.PoolReserve', WHERE WHAT IT READS IS OF BULK AT MOST 1048576: true; the input reads as it did. -/
def poolReserveUptoRow : OpenClaim := { program := "ytjdlekjikemdpaa", sum := "f4a86747602a555f02f2f0317681761e3302a85651ecbbce7859b2d684e9d135", func := "zoneappend/zoneappendlaw13.PoolReserve", spec := "poolReserve", inPlace := ["slices.overlaps[int]"], apart := false, narrowed := true }
def PoolReserveUptoSaid : Prop := poolReserveUptoRow.holds Try.pinned (OpenSpec.upto poolReserveSpec)

end Rows
end Go.Proofs.Ytjdlekjikemdpaa
