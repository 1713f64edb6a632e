/-
  No cell of these rows narrows 'for every input' (looked for: loops, veiled, ifaces, maps, wideKeys, modest, calm, conditions, laid).
  DERIVED. THE GIVEN ROWS OF THIS SEAT. 3 by the template 'for every input the law returns true; each argument reads behind the call as it read before'; 0 by the template 'total and deterministic' (their statements: YtigmjpkhpoolkaaTotals.lean).
  GIVEN WITH THE SEED: the statements are not yours to turn. If you find one false, say at which input.
  Laid BY PROGRAM, IN A SANDBOX (cutbox-rows.mjs): the forced cells as the released guide's own fill.sh prints them over the translation 0712c68b0e36c974… (all of the seat's roots in one cut). By AI agents, Wed Nov 11 2026. No macro, syntax, notation, axiom, sorry.
-/
import Derived.Test.YtigmjpkhpoolkaaChecked
import GoSem.Claim
import GoSem.ClaimJoined
import GoSem.ClaimMapViews
import Derived.JoinedTies
import Derived.KernelRfl
namespace Go.Proofs.Ytigmjpkhpoolkaa
/- THE CELL 'sum', in the pinned program and in every row, IS THE sha256 OF THE DUMP (.gsa) THAT YtigmjpkhpoolkaaProg.lean LOADS. Nothing in Lean hashes anything: it is a label: what it is worth is what the hold of that sum in a sandbox is worth. -/
noncomputable def Try.pinned : Pinned := { name := "ytigmjpkhpoolkaa", sum := "0712c68b0e36c97438d31aceb18ab9bf4c3083220bbe9c5db1772b5812c1c752", checked := Try.checked }
namespace Rows
def none {H : Type} : Left H := { results := [], args := [] }

/-- 'zoneappendlaw10.LiveRaw': WHATEVER THE INPUT: true; the input reads as it did. -/
def liveRawSpec : ChangeSpec := { name := "liveRaw", fn := fun _ => fun
  | [d1, d2, d3, d4, d5, d6, d7] => { results := [.lit (.bool true)], args := [d1, d2, d3, d4, d5, d6, d7] }
  | _ => none }
def liveRawRow : OpenClaim := { program := "ytigmjpkhpoolkaa", sum := "0712c68b0e36c97438d31aceb18ab9bf4c3083220bbe9c5db1772b5812c1c752", func := "zoneappend/zoneappendlaw10.LiveRaw", spec := "liveRaw", apart := false }
def LiveRawSaid : Prop := liveRawRow.holds Try.pinned (OpenSpec.ofChange liveRawSpec)

/-- ITS FALSE NEIGHBOUR: 'it returns false'. Refute it at one input. -/
def liveRawWrong : ChangeSpec := { name := "liveRaw", fn := fun _ => fun
  | [d1, d2, d3, d4, d5, d6, d7] => { results := [.lit (.bool false)], args := [d1, d2, d3, d4, d5, d6, d7] }
  | _ => none }
def LiveRawWrongFalsely : Prop := liveRawRow.holds Try.pinned (OpenSpec.ofChange liveRawWrong)

/-- 'zoneappendlaw10.LiveFollows': WHATEVER THE INPUT: true; the input reads as it did. -/
def liveFollowsSpec : ChangeSpec := { name := "liveFollows", fn := fun _ => fun
  | [d] => { results := [.lit (.bool true)], args := [d] }
  | _ => none }
def liveFollowsRow : OpenClaim := { program := "ytigmjpkhpoolkaa", sum := "0712c68b0e36c97438d31aceb18ab9bf4c3083220bbe9c5db1772b5812c1c752", func := "zoneappend/zoneappendlaw10.LiveFollows", spec := "liveFollows", apart := false }
def LiveFollowsSaid : Prop := liveFollowsRow.holds Try.pinned (OpenSpec.ofChange liveFollowsSpec)

/-- ITS FALSE NEIGHBOUR: 'it returns false'. Refute it at one input. -/
def liveFollowsWrong : ChangeSpec := { name := "liveFollows", fn := fun _ => fun
  | [d] => { results := [.lit (.bool false)], args := [d] }
  | _ => none }
def LiveFollowsWrongFalsely : Prop := liveFollowsRow.holds Try.pinned (OpenSpec.ofChange liveFollowsWrong)

/-- 'zoneappendlaw10.LivePending': WHATEVER THE INPUT: true; the input reads as it did. -/
def livePendingSpec : ChangeSpec := { name := "livePending", fn := fun _ => fun
  | [d1, d2] => { results := [.lit (.bool true)], args := [d1, d2] }
  | _ => none }
def livePendingRow : OpenClaim := { program := "ytigmjpkhpoolkaa", sum := "0712c68b0e36c97438d31aceb18ab9bf4c3083220bbe9c5db1772b5812c1c752", func := "zoneappend/zoneappendlaw10.LivePending", spec := "livePending", apart := false }
def LivePendingSaid : Prop := livePendingRow.holds Try.pinned (OpenSpec.ofChange livePendingSpec)

/-- ITS FALSE NEIGHBOUR: 'it returns false'. Refute it at one input. -/
def livePendingWrong : ChangeSpec := { name := "livePending", fn := fun _ => fun
  | [d1, d2] => { results := [.lit (.bool false)], args := [d1, d2] }
  | _ => none }
def LivePendingWrongFalsely : Prop := livePendingRow.holds Try.pinned (OpenSpec.ofChange livePendingWrong)

/- THE SECOND FORM. 'bulk': how many values and letters a reading holds, each counted each time it is reached (what is shared counts as often as it is met; a slice's spare places count too). A statement '..UptoSaid' is the law's where the arguments, and the package variables that the reading takes, are together of bulk at most 1048576: NARROWER than '..Said'. Prove '..Said' where nothing that the law and all that it calls make is longer than what came in: it says more and counts as full. Else prove '..UptoSaid'. A law counts once. -/
mutual
def uptoBulk {H : Type} : DataW H → Nat
  | .lit (.string bytes) => bytes.length + 1
  | .lit _ => 1
  | .nil => 1
  | .ptr d => uptoBulk d + 1
  | .slice elems spare => uptoBulkAll elems + uptoBulkAll spare + 1
  | .agg parts => uptoBulkAll parts + 1
  | .iface _ d => uptoBulk d + 1
  | .map entries => uptoBulkEntries entries + 1
  | .held _ => 1
def uptoBulkAll {H : Type} : List (DataW H) → Nat
  | [] => 0
  | d :: r => uptoBulk d + uptoBulkAll r
def uptoBulkEntries {H : Type} : List (Lit × DataW H) → Nat
  | [] => 0
  | x :: r => uptoBulkEntry x + uptoBulkEntries r
def uptoBulkEntry {H : Type} : Lit × DataW H → Nat
  | (.string bytes, d) => bytes.length + uptoBulk d + 1
  | (_, d) => uptoBulk d + 1
 end
def uptoSmall : (H : Type) → List (DataW H) → Bool := fun _ ds => decide (uptoBulkAll ds ≤ 1048576)
def OpenSpec.upto (s : _root_.Go.ChangeSpec) : _root_.Go.OpenSpec := { _root_.Go.OpenSpec.ofChange s with cond := some uptoSmall }

/-- 'zoneappendlaw10.LiveRaw', WHERE WHAT IT READS IS OF BULK AT MOST 1048576: true; the input reads as it did. -/
def liveRawUptoRow : OpenClaim := { program := "ytigmjpkhpoolkaa", sum := "0712c68b0e36c97438d31aceb18ab9bf4c3083220bbe9c5db1772b5812c1c752", func := "zoneappend/zoneappendlaw10.LiveRaw", spec := "liveRaw", apart := false, narrowed := true }
def LiveRawUptoSaid : Prop := liveRawUptoRow.holds Try.pinned (OpenSpec.upto liveRawSpec)

/-- 'zoneappendlaw10.LiveFollows', WHERE WHAT IT READS IS OF BULK AT MOST 1048576: true; the input reads as it did. -/
def liveFollowsUptoRow : OpenClaim := { program := "ytigmjpkhpoolkaa", sum := "0712c68b0e36c97438d31aceb18ab9bf4c3083220bbe9c5db1772b5812c1c752", func := "zoneappend/zoneappendlaw10.LiveFollows", spec := "liveFollows", apart := false, narrowed := true }
def LiveFollowsUptoSaid : Prop := liveFollowsUptoRow.holds Try.pinned (OpenSpec.upto liveFollowsSpec)

/-- 'zoneappendlaw10.LivePending', WHERE WHAT IT READS IS OF BULK AT MOST 1048576: true; the input reads as it did. -/
def livePendingUptoRow : OpenClaim := { program := "ytigmjpkhpoolkaa", sum := "0712c68b0e36c97438d31aceb18ab9bf4c3083220bbe9c5db1772b5812c1c752", func := "zoneappend/zoneappendlaw10.LivePending", spec := "livePending", apart := false, narrowed := true }
def LivePendingUptoSaid : Prop := livePendingUptoRow.holds Try.pinned (OpenSpec.upto livePendingSpec)

end Rows
end Go.Proofs.Ytigmjpkhpoolkaa
