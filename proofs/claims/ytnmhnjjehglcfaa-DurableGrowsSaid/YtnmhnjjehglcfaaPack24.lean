/- Texts that belong together, part 24. -/
import Derived.Test.YtnmhnjjehglcfaaPack22
import Derived.Test.YtnmhnjjehglcfaaPack23
import Derived.Deep.DeepCutAuto

/- A part of the walk of the laws' histories: an operation returns. -/
namespace Go.Proofs.Ytnmhnjjehglcfaa.Ents
open Go.RowKit Plan HisMath LinMath ModMath Rws Env LayMath
theorem wrap_one (z : Nat) (h : z ≤ 1000) : wrap64 (1 + (z : Int)) = 1 + (z : Int) := by unfold wrap64; omega
theorem kwrap_one (z : Nat) (h : z ≤ 1000) : IntKind.i64.wrap (1 + (z : Int)) = 1 + (z : Int) := by rw [IntWalk.i64_in _ (by omega)]
theorem made_value (dv : Nat) (W : World) (h : dv ≤ 1000) : Calls Try.prog 13 #[.int .i64 (1 + (dv : Int))] W fun e w' => e = .returned (.string ⟨(valueL (1 + dv)).toArray⟩) ∧ Below W.heap.size W w' := by
  have h9 := value_any (1 + dv) (by omega) W
  rw [show ((1 + dv : Nat) : Int) = 1 + (dv : Int) by omega] at h9
  exact h9
end Go.Proofs.Ytnmhnjjehglcfaa.Ents

/- The walk of the document's visit: the search for linearizations of one block. -/
namespace Go.Proofs.Ytnmhnjjehglcfaa.Ents
open Go.RowKit Plan HisMath LinMath Rws Env LayMath Bits
section
variable {w W : World} {T : List Thing} {mb : Nat} {Sn : List (Int × ByteArray)}
variable {ops : Array Oper} {Q : Exit → Act → World → Prop} {S : World → Prop}
end
section
variable {L O : List Ev} {w0 w w' : World} {F : Nat → Prop} {T : List Thing} {g mb on oc fc : Nat} {oa fa : Option Addr} {all : Bool} {D : Nat} {v : ByteArray} {ea ea' : Option Addr} {en ec en' ec' : Nat} {Sn Sn' : List (Int × ByteArray)} {El El' : List ByteArray}
end
section
variable {L O : List Ev} {w0 w wx w2 : World} {F : Nat → Prop} {T : List Thing} {g mb on oc fc i X : Nat} {oa fa : Option Addr} {all : Bool} {D : Nat} {v v0 : ByteArray} {ea ea2 : Option Addr} {en ec en2 ec2 : Nat} {Sn Sn2 : List (Int × ByteArray)} {El El2 : List ByteArray}
end
end Go.Proofs.Ytnmhnjjehglcfaa.Ents

/- The walks of the document's Block and Values: a search from its beginning. -/
namespace Go.Proofs.Ytnmhnjjehglcfaa.Ents
open Go.RowKit Plan HisMath LinMath Rws Env LayMath Bits
end Go.Proofs.Ytnmhnjjehglcfaa.Ents

/- The walk of the document's Can: whether a history has a linearization, block by block. -/
namespace Go.Proofs.Ytnmhnjjehglcfaa.LinMath
open HisMath ModMath
end Go.Proofs.Ytnmhnjjehglcfaa.LinMath
namespace Go.Proofs.Ytnmhnjjehglcfaa.Ents
open Go.RowKit Plan HisMath LinMath Rws Env LayMath CmdMath
end Go.Proofs.Ytnmhnjjehglcfaa.Ents

/- What the program promises of linearizations; the walk of the laws' answered. -/
namespace Go.Proofs.Ytnmhnjjehglcfaa.Ents
open Go.RowKit Plan HisMath LinMath Rws Env LayMath
end Go.Proofs.Ytnmhnjjehglcfaa.Ents
