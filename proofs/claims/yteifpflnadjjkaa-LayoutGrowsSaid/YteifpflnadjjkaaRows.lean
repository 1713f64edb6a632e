/-
  No cell of these rows narrows 'for every input' (looked for: loops, veiled, ifaces, maps, wideKeys, modest, calm, conditions, laid).
  DERIVED. THE GIVEN ROWS OF THIS SEAT. 4 by the template 'for every input the law returns true; each argument reads behind the call as it read before'; 0 by the template 'total and deterministic' (their statements: YteifpflnadjjkaaTotals.lean).
  GIVEN WITH THE SEED: the statements are not yours to turn. If you find one false, say at which input.
  Laid BY PROGRAM, IN A SANDBOX (cutbox-rows.mjs): the forced cells as the released guide's own fill.sh prints them over the translation aa33c02fd58653b2… (all of the seat's roots in one cut). By AI agents, Wed Nov 11 2026. No macro, syntax, notation, axiom, sorry.
-/
import Derived.Test.YteifpflnadjjkaaChecked
import GoSem.Claim
import GoSem.ClaimJoined
import GoSem.ClaimMapViews
import Derived.JoinedTies
import Derived.KernelRfl
namespace Go.Proofs.Yteifpflnadjjkaa
/- THE CELL 'sum', in the pinned program and in every row, IS THE sha256 OF THE DUMP (.gsa) THAT YteifpflnadjjkaaProg.lean LOADS. Nothing in Lean hashes anything: it is a label: what it is worth is what the hold of that sum in a sandbox is worth. -/
noncomputable def Try.pinned : Pinned := { name := "yteifpflnadjjkaa", sum := "aa33c02fd58653b2f5516eae5057413d36ea694c2bec616690b91dc98b3994b8", checked := Try.checked }
namespace Rows
def none {H : Type} : Left H := { results := [], args := [] }

/-- 'zoneappendlaw07.LayoutExact': WHATEVER THE INPUT: true; the input reads as it did. -/
def layoutExactSpec : ChangeSpec := { name := "layoutExact", fn := fun _ => fun
  | [d1, d2, d3] => { results := [.lit (.bool true)], args := [d1, d2, d3] }
  | _ => none }
def layoutExactRow : OpenClaim := { program := "yteifpflnadjjkaa", sum := "aa33c02fd58653b2f5516eae5057413d36ea694c2bec616690b91dc98b3994b8", func := "zoneappend/zoneappendlaw07.LayoutExact", spec := "layoutExact", apart := false }
def LayoutExactSaid : Prop := layoutExactRow.holds Try.pinned (OpenSpec.ofChange layoutExactSpec)

/-- ITS FALSE NEIGHBOUR: 'it returns false'. Refute it at one input. -/
def layoutExactWrong : ChangeSpec := { name := "layoutExact", fn := fun _ => fun
  | [d1, d2, d3] => { results := [.lit (.bool false)], args := [d1, d2, d3] }
  | _ => none }
def LayoutExactWrongFalsely : Prop := layoutExactRow.holds Try.pinned (OpenSpec.ofChange layoutExactWrong)

/-- 'zoneappendlaw07.LayoutMade': WHATEVER THE INPUT: true; the input reads as it did. -/
def layoutMadeSpec : ChangeSpec := { name := "layoutMade", fn := fun _ => fun
  | [d1, d2, d3] => { results := [.lit (.bool true)], args := [d1, d2, d3] }
  | _ => none }
def layoutMadeRow : OpenClaim := { program := "yteifpflnadjjkaa", sum := "aa33c02fd58653b2f5516eae5057413d36ea694c2bec616690b91dc98b3994b8", func := "zoneappend/zoneappendlaw07.LayoutMade", spec := "layoutMade", apart := false }
def LayoutMadeSaid : Prop := layoutMadeRow.holds Try.pinned (OpenSpec.ofChange layoutMadeSpec)

/-- ITS FALSE NEIGHBOUR: 'it returns false'. Refute it at one input. -/
def layoutMadeWrong : ChangeSpec := { name := "layoutMade", fn := fun _ => fun
  | [d1, d2, d3] => { results := [.lit (.bool false)], args := [d1, d2, d3] }
  | _ => none }
def LayoutMadeWrongFalsely : Prop := layoutMadeRow.holds Try.pinned (OpenSpec.ofChange layoutMadeWrong)

/-- 'zoneappendlaw07.LayoutDivides': WHATEVER THE INPUT: true; the input reads as it did. -/
def layoutDividesSpec : ChangeSpec := { name := "layoutDivides", fn := fun _ => fun
  | [d] => { results := [.lit (.bool true)], args := [d] }
  | _ => none }
def layoutDividesRow : OpenClaim := { program := "yteifpflnadjjkaa", sum := "aa33c02fd58653b2f5516eae5057413d36ea694c2bec616690b91dc98b3994b8", func := "zoneappend/zoneappendlaw07.LayoutDivides", spec := "layoutDivides", apart := false }
def LayoutDividesSaid : Prop := layoutDividesRow.holds Try.pinned (OpenSpec.ofChange layoutDividesSpec)

/-- ITS FALSE NEIGHBOUR: 'it returns false'. Refute it at one input. -/
def layoutDividesWrong : ChangeSpec := { name := "layoutDivides", fn := fun _ => fun
  | [d] => { results := [.lit (.bool false)], args := [d] }
  | _ => none }
def LayoutDividesWrongFalsely : Prop := layoutDividesRow.holds Try.pinned (OpenSpec.ofChange layoutDividesWrong)

/-- 'zoneappendlaw07.LayoutGrows': WHATEVER THE INPUT: true; the input reads as it did. -/
def layoutGrowsSpec : ChangeSpec := { name := "layoutGrows", fn := fun _ => fun
  | [d1, d2, d3] => { results := [.lit (.bool true)], args := [d1, d2, d3] }
  | _ => none }
def layoutGrowsRow : OpenClaim := { program := "yteifpflnadjjkaa", sum := "aa33c02fd58653b2f5516eae5057413d36ea694c2bec616690b91dc98b3994b8", func := "zoneappend/zoneappendlaw07.LayoutGrows", spec := "layoutGrows", apart := false }
def LayoutGrowsSaid : Prop := layoutGrowsRow.holds Try.pinned (OpenSpec.ofChange layoutGrowsSpec)

/-- ITS FALSE NEIGHBOUR: 'it returns false'. Refute it at one input. -/
def layoutGrowsWrong : ChangeSpec := { name := "layoutGrows", fn := fun _ => fun
  | [d1, d2, d3] => { results := [.lit (.bool false)], args := [d1, d2, d3] }
  | _ => none }
def LayoutGrowsWrongFalsely : Prop := layoutGrowsRow.holds Try.pinned (OpenSpec.ofChange layoutGrowsWrong)

/- THE SECOND FORM. 'bulk': how many values and letters a reading holds, each counted each time it is reached (what is shared counts as often as it is met; a slice's spare places count too). A statement '..UptoSaid' is the law's where the arguments, and the package variables that the reading takes, are together of bulk at most 1048576: NARROWER than '..Said'. Prove '..Said' where nothing that the law and all that it calls make is longer than what came in: it says more and counts as full. Else prove '..UptoSaid'. A law counts once. -/
mutual
def uptoBulk {H : Type} : DataW H → Nat
  | .lit (.string bytes) => bytes.length + 1
  | .lit _ => 1
  | .nil => 1
  | .ptr d => uptoBulk d + 1
  | .slice elems spare => uptoBulkAll elems + uptoBulkAll spare + 1
  | .agg parts => uptoBulkAll parts + 1
  | .iface _ d => uptoBulk d + 1
  | .map entries => uptoBulkEntries entries + 1
  | .held _ => 1
def uptoBulkAll {H : Type} : List (DataW H) → Nat
  | [] => 0
  | d :: r => uptoBulk d + uptoBulkAll r
def uptoBulkEntries {H : Type} : List (Lit × DataW H) → Nat
  | [] => 0
  | x :: r => uptoBulkEntry x + uptoBulkEntries r
def uptoBulkEntry {H : Type} : Lit × DataW H → Nat
  | (.string bytes, d) => bytes.length + uptoBulk d + 1
  | (_, d) => uptoBulk d + 1
 end
def uptoSmall : (H : Type) → List (DataW H) → Bool := fun _ ds => decide (uptoBulkAll ds ≤ 1048576)
def OpenSpec.upto (s : _root_.Go.ChangeSpec) : _root_.Go.OpenSpec := { _root_.Go.OpenSpec.ofChange s with cond := some uptoSmall }

/-- 'zoneappendlaw07.LayoutExact', WHERE WHAT IT READS IS OF BULK AT MOST 1048576: true; the input reads as it did. -/
def layoutExactUptoRow : OpenClaim := { program := "yteifpflnadjjkaa", sum := "aa33c02fd58653b2f5516eae5057413d36ea694c2bec616690b91dc98b3994b8", func := "zoneappend/zoneappendlaw07.LayoutExact", spec := "layoutExact", apart := false, narrowed := true }
def LayoutExactUptoSaid : Prop := layoutExactUptoRow.holds Try.pinned (OpenSpec.upto layoutExactSpec)

/-- 'zoneappendlaw07.LayoutMade', WHERE WHAT IT READS IS OF BULK AT MOST 1048576: true; the input reads as it did. -/
def layoutMadeUptoRow : OpenClaim := { program := "yteifpflnadjjkaa", sum := "aa33c02fd58653b2f5516eae5057413d36ea694c2bec616690b91dc98b3994b8", func := "zoneappend/zoneappendlaw07.LayoutMade", spec := "layoutMade", apart := false, narrowed := true }
def LayoutMadeUptoSaid : Prop := layoutMadeUptoRow.holds Try.pinned (OpenSpec.upto layoutMadeSpec)

/-- 'zoneappendlaw07.LayoutDivides', WHERE WHAT IT READS IS OF BULK AT MOST 1048576: true; the input reads as it did. -/
def layoutDividesUptoRow : OpenClaim := { program := "yteifpflnadjjkaa", sum := "aa33c02fd58653b2f5516eae5057413d36ea694c2bec616690b91dc98b3994b8", func := "zoneappend/zoneappendlaw07.LayoutDivides", spec := "layoutDivides", apart := false, narrowed := true }
def LayoutDividesUptoSaid : Prop := layoutDividesUptoRow.holds Try.pinned (OpenSpec.upto layoutDividesSpec)

/-- 'zoneappendlaw07.LayoutGrows', WHERE WHAT IT READS IS OF BULK AT MOST 1048576: true; the input reads as it did. -/
def layoutGrowsUptoRow : OpenClaim := { program := "yteifpflnadjjkaa", sum := "aa33c02fd58653b2f5516eae5057413d36ea694c2bec616690b91dc98b3994b8", func := "zoneappend/zoneappendlaw07.LayoutGrows", spec := "layoutGrows", apart := false, narrowed := true }
def LayoutGrowsUptoSaid : Prop := layoutGrowsUptoRow.holds Try.pinned (OpenSpec.upto layoutGrowsSpec)

end Rows
end Go.Proofs.Yteifpflnadjjkaa
