/-
  No cell of these rows narrows 'for every input' (looked for: loops, veiled, ifaces, maps, wideKeys, modest, calm, conditions, laid).
  DERIVED. THE GIVEN ROWS OF THIS SEAT. 5 by the template 'for every input the law returns true; each argument reads behind the call as it read before'; 0 by the template 'total and deterministic' (their statements: YtbaclgedohpibaaTotals.lean).
  GIVEN WITH THE SEED: the statements are not yours to turn. If you find one false, say at which input.
  Laid BY PROGRAM, IN A SANDBOX (cutbox-rows.mjs): the forced cells as the released guide's own fill.sh prints them over the translation faac84acbeedeba0… (all of the seat's roots in one cut). By AI agents, Wed Nov 11 2026. No macro, syntax, notation, axiom, sorry.
-/
import Derived.Test.YtbaclgedohpibaaChecked
import GoSem.Claim
import GoSem.ClaimJoined
import GoSem.ClaimMapViews
import Derived.JoinedTies
import Derived.KernelRfl
namespace Go.Proofs.Ytbaclgedohpibaa
/- THE CELL 'sum', in the pinned program and in every row, IS THE sha256 OF THE DUMP (.gsa) THAT YtbaclgedohpibaaProg.lean LOADS. Nothing in Lean hashes anything: it is a label: what it is worth is what the hold of that sum in a sandbox is worth. -/
noncomputable def Try.pinned : Pinned := { name := "ytbaclgedohpibaa", sum := "faac84acbeedeba0121a328153eded794fa4adc653de917a045b2a497329a4d1", checked := Try.checked }
namespace Rows
def none {H : Type} : Left H := { results := [], args := [] }

/-- 'zoneappendlaw08.ShardRaw': WHATEVER THE INPUT: true; the input reads as it did. -/
def shardRawSpec : ChangeSpec := { name := "shardRaw", fn := fun _ => fun
  | [d1, d2, d3, d4, d5, d6, d7] => { results := [.lit (.bool true)], args := [d1, d2, d3, d4, d5, d6, d7] }
  | _ => none }
def shardRawRow : OpenClaim := { program := "ytbaclgedohpibaa", sum := "faac84acbeedeba0121a328153eded794fa4adc653de917a045b2a497329a4d1", func := "zoneappend/zoneappendlaw08.ShardRaw", spec := "shardRaw", unfollowed := true, recurses := true, apart := false }
def ShardRawSaid : Prop := shardRawRow.holds Try.pinned (OpenSpec.ofChange shardRawSpec)

/-- ITS FALSE NEIGHBOUR: 'it returns false'. Refute it at one input. -/
def shardRawWrong : ChangeSpec := { name := "shardRaw", fn := fun _ => fun
  | [d1, d2, d3, d4, d5, d6, d7] => { results := [.lit (.bool false)], args := [d1, d2, d3, d4, d5, d6, d7] }
  | _ => none }
def ShardRawWrongFalsely : Prop := shardRawRow.holds Try.pinned (OpenSpec.ofChange shardRawWrong)

/-- 'zoneappendlaw08.ShardMade': WHATEVER THE INPUT: true; the input reads as it did. -/
def shardMadeSpec : ChangeSpec := { name := "shardMade", fn := fun _ => fun
  | [d] => { results := [.lit (.bool true)], args := [d] }
  | _ => none }
def shardMadeRow : OpenClaim := { program := "ytbaclgedohpibaa", sum := "faac84acbeedeba0121a328153eded794fa4adc653de917a045b2a497329a4d1", func := "zoneappend/zoneappendlaw08.ShardMade", spec := "shardMade", unfollowed := true, recurses := true, apart := false }
def ShardMadeSaid : Prop := shardMadeRow.holds Try.pinned (OpenSpec.ofChange shardMadeSpec)

/-- ITS FALSE NEIGHBOUR: 'it returns false'. Refute it at one input. -/
def shardMadeWrong : ChangeSpec := { name := "shardMade", fn := fun _ => fun
  | [d] => { results := [.lit (.bool false)], args := [d] }
  | _ => none }
def ShardMadeWrongFalsely : Prop := shardMadeRow.holds Try.pinned (OpenSpec.ofChange shardMadeWrong)

/-- 'zoneappendlaw08.ShardNewest': WHATEVER THE INPUT: true; the input reads as it did. -/
def shardNewestSpec : ChangeSpec := { name := "shardNewest", fn := fun _ => fun
  | [d1, d2] => { results := [.lit (.bool true)], args := [d1, d2] }
  | _ => none }
def shardNewestRow : OpenClaim := { program := "ytbaclgedohpibaa", sum := "faac84acbeedeba0121a328153eded794fa4adc653de917a045b2a497329a4d1", func := "zoneappend/zoneappendlaw08.ShardNewest", spec := "shardNewest", unfollowed := true, recurses := true, apart := false }
def ShardNewestSaid : Prop := shardNewestRow.holds Try.pinned (OpenSpec.ofChange shardNewestSpec)

/-- ITS FALSE NEIGHBOUR: 'it returns false'. Refute it at one input. -/
def shardNewestWrong : ChangeSpec := { name := "shardNewest", fn := fun _ => fun
  | [d1, d2] => { results := [.lit (.bool false)], args := [d1, d2] }
  | _ => none }
def ShardNewestWrongFalsely : Prop := shardNewestRow.holds Try.pinned (OpenSpec.ofChange shardNewestWrong)

/-- 'zoneappendlaw08.ShardDrops': WHATEVER THE INPUT: true; the input reads as it did. -/
def shardDropsSpec : ChangeSpec := { name := "shardDrops", fn := fun _ => fun
  | [d1, d2, d3] => { results := [.lit (.bool true)], args := [d1, d2, d3] }
  | _ => none }
def shardDropsRow : OpenClaim := { program := "ytbaclgedohpibaa", sum := "faac84acbeedeba0121a328153eded794fa4adc653de917a045b2a497329a4d1", func := "zoneappend/zoneappendlaw08.ShardDrops", spec := "shardDrops", unfollowed := true, recurses := true, apart := false }
def ShardDropsSaid : Prop := shardDropsRow.holds Try.pinned (OpenSpec.ofChange shardDropsSpec)

/-- ITS FALSE NEIGHBOUR: 'it returns false'. Refute it at one input. -/
def shardDropsWrong : ChangeSpec := { name := "shardDrops", fn := fun _ => fun
  | [d1, d2, d3] => { results := [.lit (.bool false)], args := [d1, d2, d3] }
  | _ => none }
def ShardDropsWrongFalsely : Prop := shardDropsRow.holds Try.pinned (OpenSpec.ofChange shardDropsWrong)

/-- 'zoneappendlaw08.ShardCommutes': WHATEVER THE INPUT: true; the input reads as it did. -/
def shardCommutesSpec : ChangeSpec := { name := "shardCommutes", fn := fun _ => fun
  | [d] => { results := [.lit (.bool true)], args := [d] }
  | _ => none }
def shardCommutesRow : OpenClaim := { program := "ytbaclgedohpibaa", sum := "faac84acbeedeba0121a328153eded794fa4adc653de917a045b2a497329a4d1", func := "zoneappend/zoneappendlaw08.ShardCommutes", spec := "shardCommutes", unfollowed := true, recurses := true, apart := false }
def ShardCommutesSaid : Prop := shardCommutesRow.holds Try.pinned (OpenSpec.ofChange shardCommutesSpec)

/-- ITS FALSE NEIGHBOUR: 'it returns false'. Refute it at one input. -/
def shardCommutesWrong : ChangeSpec := { name := "shardCommutes", fn := fun _ => fun
  | [d] => { results := [.lit (.bool false)], args := [d] }
  | _ => none }
def ShardCommutesWrongFalsely : Prop := shardCommutesRow.holds Try.pinned (OpenSpec.ofChange shardCommutesWrong)

/- THE SECOND FORM. 'bulk': how many values and letters a reading holds, each counted each time it is reached (what is shared counts as often as it is met; a slice's spare places count too). A statement '..UptoSaid' is the law's where the arguments, and the package variables that the reading takes, are together of bulk at most 1048576: NARROWER than '..Said'. Prove '..Said' where nothing that the law and all that it calls make is longer than what came in: it says more and counts as full. Else prove '..UptoSaid'. A law counts once. -/
mutual
def uptoBulk {H : Type} : DataW H → Nat
  | .lit (.string bytes) => bytes.length + 1
  | .lit _ => 1
  | .nil => 1
  | .ptr d => uptoBulk d + 1
  | .slice elems spare => uptoBulkAll elems + uptoBulkAll spare + 1
  | .agg parts => uptoBulkAll parts + 1
  | .iface _ d => uptoBulk d + 1
  | .map entries => uptoBulkEntries entries + 1
  | .held _ => 1
def uptoBulkAll {H : Type} : List (DataW H) → Nat
  | [] => 0
  | d :: r => uptoBulk d + uptoBulkAll r
def uptoBulkEntries {H : Type} : List (Lit × DataW H) → Nat
  | [] => 0
  | x :: r => uptoBulkEntry x + uptoBulkEntries r
def uptoBulkEntry {H : Type} : Lit × DataW H → Nat
  | (.string bytes, d) => bytes.length + uptoBulk d + 1
  | (_, d) => uptoBulk d + 1
 end
def uptoSmall : (H : Type) → List (DataW H) → Bool := fun _ ds => decide (uptoBulkAll ds ≤ 1048576)
def OpenSpec.upto (s : _root_.Go.ChangeSpec) : _root_.Go.OpenSpec := { _root_.Go.OpenSpec.ofChange s with cond := some uptoSmall }

/-- 'zoneappendlaw08.ShardRaw', WHERE WHAT IT READS IS OF BULK AT MOST 1048576: true; the input reads as it did. -/
def shardRawUptoRow : OpenClaim := { program := "ytbaclgedohpibaa", sum := "faac84acbeedeba0121a328153eded794fa4adc653de917a045b2a497329a4d1", func := "zoneappend/zoneappendlaw08.ShardRaw", spec := "shardRaw", unfollowed := true, recurses := true, apart := false, narrowed := true }
def ShardRawUptoSaid : Prop := shardRawUptoRow.holds Try.pinned (OpenSpec.upto shardRawSpec)

/-- 'zoneappendlaw08.ShardMade', WHERE WHAT IT READS IS OF BULK AT MOST 1048576: true; the input reads as it did. -/
def shardMadeUptoRow : OpenClaim := { program := "ytbaclgedohpibaa", sum := "faac84acbeedeba0121a328153eded794fa4adc653de917a045b2a497329a4d1", func := "zoneappend/zoneappendlaw08.ShardMade", spec := "shardMade", unfollowed := true, recurses := true, apart := false, narrowed := true }
def ShardMadeUptoSaid : Prop := shardMadeUptoRow.holds Try.pinned (OpenSpec.upto shardMadeSpec)

/-- 'zoneappendlaw08.ShardNewest', WHERE WHAT IT READS IS OF BULK AT MOST 1048576: true; the input reads as it did. -/
def shardNewestUptoRow : OpenClaim := { program := "ytbaclgedohpibaa", sum := "faac84acbeedeba0121a328153eded794fa4adc653de917a045b2a497329a4d1", func := "zoneappend/zoneappendlaw08.ShardNewest", spec := "shardNewest", unfollowed := true, recurses := true, apart := false, narrowed := true }
def ShardNewestUptoSaid : Prop := shardNewestUptoRow.holds Try.pinned (OpenSpec.upto shardNewestSpec)

/-- 'zoneappendlaw08.ShardDrops', WHERE WHAT IT READS IS OF BULK AT MOST 1048576: true; the input reads as it did. -/
def shardDropsUptoRow : OpenClaim := { program := "ytbaclgedohpibaa", sum := "faac84acbeedeba0121a328153eded794fa4adc653de917a045b2a497329a4d1", func := "zoneappend/zoneappendlaw08.ShardDrops", spec := "shardDrops", unfollowed := true, recurses := true, apart := false, narrowed := true }
def ShardDropsUptoSaid : Prop := shardDropsUptoRow.holds Try.pinned (OpenSpec.upto shardDropsSpec)

/-- 'zoneappendlaw08.ShardCommutes', WHERE WHAT IT READS IS OF BULK AT MOST 1048576: true; the input reads as it did. -/
def shardCommutesUptoRow : OpenClaim := { program := "ytbaclgedohpibaa", sum := "faac84acbeedeba0121a328153eded794fa4adc653de917a045b2a497329a4d1", func := "zoneappend/zoneappendlaw08.ShardCommutes", spec := "shardCommutes", unfollowed := true, recurses := true, apart := false, narrowed := true }
def ShardCommutesUptoSaid : Prop := shardCommutesUptoRow.holds Try.pinned (OpenSpec.upto shardCommutesSpec)

end Rows
end Go.Proofs.Ytbaclgedohpibaa
