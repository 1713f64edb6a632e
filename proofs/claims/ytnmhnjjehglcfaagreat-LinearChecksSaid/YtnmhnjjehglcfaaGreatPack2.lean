/- Texts that belong together, part 2. -/
import Derived.Test.YtnmhnjjehglcfaaGreatPack1

/- Numbers as bytes, the lowest byte first: the plain arithmetic. Every law holds for all numbers and lists. -/
namespace Go.Proofs.YtnmhnjjehglcfaaGreat.CodecMath

/-- byte i of n -/
def byteOf (n i : Nat) : UInt8 := UInt8.ofNat (n / 256 ^ i)
/-- the first k bytes of n -/
def bytes (n k : Nat) : List UInt8 := (List.range k).map (byteOf n)
/-- the document's Put: whether it gives bytes -/
def okPut (n k : Int) : Bool := decide (1 ≤ k) && decide (k ≤ 7) && decide (0 ≤ n) && decide (n < ((256 ^ k.toNat : Nat) : Int))
def putE (n k : Int) : Int := if okPut n k = true then 0 else 1
end Go.Proofs.YtnmhnjjehglcfaaGreat.CodecMath

/- What installs, relocations and drops do to the entry of a block. Plain mathematics. -/
namespace Go.Proofs.YtnmhnjjehglcfaaGreat.EntMath
/-- the entry of a block behind an install -/
def best (o : Option Ent) (e : Ent) : Option Ent := match o with | none => some e | some x => if x.version < e.version then some e else some x
/-! relocating -/
/-! dropping -/
end Go.Proofs.YtnmhnjjehglcfaaGreat.EntMath

/- Counters of zones, and what layer 10 of the document says of them. Plain mathematics. -/
namespace Go.Proofs.YtnmhnjjehglcfaaGreat.CntMath
open EntMath
structure Cnt where
  live : List Int
  pend : List Int
deriving DecidableEq
def plusL (l : List Int) (i : Nat) (n : Int) : List Int := l.set i (l.getD i 0 + n)
/-- the counters that a change would lead to -/
def less (C : Cnt) (o : Int) (had : Bool) : List Int := if had = true then plusL C.live o.toNat (-1) else C.live
def more (l : List Int) (f : Int) (is : Bool) : List Int := if is = true then plusL l f.toNat 1 else l
end Go.Proofs.YtnmhnjjehglcfaaGreat.CntMath
