/- Texts that belong together, part 1. -/

/- Entries of the map, lists of them, and what layer 8 of the document says of them. Plain mathematics. -/
namespace Go.Proofs.YtnmhnjjehglcfaaGreat.EntMath
structure Ent where
  block : Int
  kind : Int
  version : Int
  move : Int
  zone : Int
  offset : Int
deriving DecidableEq
/-- the first place whose entry has at least this block -/
def place (L : List Ent) (b : Int) : Nat := L.findIdx fun e => decide (b ≤ e.block)
/-! a shard -/
/-! looking up -/
/-! the place -/
/-! putting in -/
/-! dropping -/
end Go.Proofs.YtnmhnjjehglcfaaGreat.EntMath

/- Commands: what layer 15 of the document says of them. Plain mathematics. -/
namespace Go.Proofs.YtnmhnjjehglcfaaGreat.CmdMath
/-- the error of a command of kind k on block b with n bytes, of a device of nb blocks -/
def checkC (nb k b : Int) (n : Nat) : Int :=
  if k < 1 ∨ 4 < k then 3
  else if (k = 4 ∧ b ≠ 0) ∨ (k ≠ 4 ∧ (b < 0 ∨ nb ≤ b)) then 1
  else if (k = 2 ∧ n ≠ 16) ∨ (k ≠ 2 ∧ n ≠ 0) then 2
  else 0
def zeroC : ByteArray := ⟨#[0, 0, 0, 0, 0, 0, 0, 0, 0, 0, 0, 0, 0, 0, 0, 0]⟩
end Go.Proofs.YtnmhnjjehglcfaaGreat.CmdMath

/- Configurations and layouts as numbers: what layer 7 of the document says of them. Plain mathematics. -/
namespace Go.Proofs.YtnmhnjjehglcfaaGreat.LayMath
/-- the zones of a slot -/
def slotN (s b : Int) : Int := (b + 2 + s - 1) / s
/-- the data zones -/
def dataN (z s b : Int) : Int := z - 2 * slotN s b
/-- the capacity -/
def capN (z s b q : Int) : Int := (dataN z s b - 3) * (s - 1) - q - 1
/-- is there enough for data -/
def fits (z s b q : Int) : Bool := !(decide (dataN z s b < 6) || decide (capN z s b q < 1))
/-- the numbers P, P + 1, .. -/
def upto (P : Int) (n : Nat) : List Int := (List.range n).map fun (i : Nat) => P + (i : Int)
end Go.Proofs.YtnmhnjjehglcfaaGreat.LayMath

/- The array of blocks: what layer 17 of the document says of it. Plain mathematics. -/
namespace Go.Proofs.YtnmhnjjehglcfaaGreat.ModMath
open CmdMath
structure Cmd where
  kind : Int
  block : Int
  data : ByteArray
structure Res where
  err : Int
  data : ByteArray
def errM (B : List ByteArray) (x : Cmd) : Int := checkC B.length x.kind x.block x.data.size
def applyB (B : List ByteArray) (x : Cmd) : List ByteArray :=
  if errM B x ≠ 0 then B else if x.kind = 2 then B.set x.block.toNat x.data else if x.kind = 3 then B.set x.block.toNat zeroC else B
def applyR (B : List ByteArray) (x : Cmd) : Res :=
  if errM B x ≠ 0 then ⟨errM B x, ⟨#[]⟩⟩ else if x.kind = 1 then ⟨0, B.getD x.block.toNat ⟨#[]⟩⟩ else ⟨0, ⟨#[]⟩⟩
def runB (B : List ByteArray) (l : List Cmd) : List ByteArray := l.foldl applyB B
def runR : List ByteArray → List Cmd → List Res
  | _, [] => []
  | B, x :: l => applyR B x :: runR (applyB B x) l
def newB (n : Int) : List ByteArray := if n < 1 ∨ 128 < n then [] else List.replicate n.toNat zeroC
theorem apply_len (B : List ByteArray) (x : Cmd) : (applyB B x).length = B.length := by
  unfold applyB
  split
  · rfl
  · split
    · simp
    · split
      · simp
      · rfl
/-- what a command's Check says of it -/
theorem check_zero {nb k b : Int} {n : Nat} (h : checkC nb k b n = 0) : (1 ≤ k ∧ k ≤ 4) ∧ (k = 4 → b = 0) ∧ (k ≠ 4 → 0 ≤ b ∧ b < nb) := by
  unfold checkC at h
  split at h
  · omega
  · split at h
    · omega
    · rename_i h1 h2
      exact ⟨by omega, by omega, by omega⟩
end Go.Proofs.YtnmhnjjehglcfaaGreat.ModMath

/- Numbers as bytes, the lowest byte first: the plain arithmetic. Every law holds for all numbers and lists. -/
namespace Go.Proofs.YtnmhnjjehglcfaaGreat.CodecMath

/-- byte i of n -/
def byteOf (n i : Nat) : UInt8 := UInt8.ofNat (n / 256 ^ i)
/-- the first k bytes of n -/
def bytes (n k : Nat) : List UInt8 := (List.range k).map (byteOf n)
/-- the document's Put: whether it gives bytes -/
def okPut (n k : Int) : Bool := decide (1 ≤ k) && decide (k ≤ 7) && decide (0 ≤ n) && decide (n < ((256 ^ k.toNat : Nat) : Int))
def putE (n k : Int) : Int := if okPut n k = true then 0 else 1
end Go.Proofs.YtnmhnjjehglcfaaGreat.CodecMath
