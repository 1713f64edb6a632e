/- A list of strings that lies in memory and is only read. -/
import Derived.Test.YtjihkcjoaefppaaRecRow
namespace Go.Proofs.Ytjihkcjoaefppaa
open Go.RowKit Plan

/-- a list of strings that came in, or that the call has made -/
def IsStrs (w : World) (a : Option Addr) (len cap : Nat) (zs : List ByteArray) : Prop :=
  (a = none ∧ len = 0 ∧ cap = 0 ∧ zs = []) ∨
  ∃ x, a = some x ∧ len ≤ cap ∧ cap ≤ maxLen ∧ zs.length = len ∧ (∀ (i : Nat) s, zs[i]? = some s → w.cell? (x.add i) = some (.string s) ∧ s.size ≤ maxLen)
theorem add_block (x : Addr) (i : Nat) : (x.add i).block = x.block := by unfold Addr.add; split <;> rfl
theorem IsStrs.on {B : Nat} {w w' : World} {a : Option Addr} {len cap : Nat} {zs : List ByteArray} (h : IsStrs w a len cap zs) (hb : Below B w w') (hB : w.heap.size ≤ B) : IsStrs w' a len cap zs := by
  rcases h with h | ⟨x, h1, h2, h3, h4, h5⟩
  · exact .inl h
  · refine .inr ⟨x, h1, h2, h3, h4, fun i s hi => ⟨?_, (h5 i s hi).2⟩⟩
    have hc := (h5 i s hi).1
    have hlt := block_lt_of_cell hc
    rw [hb.cell (by omega), hc]
theorem IsStrs.length {w : World} {a : Option Addr} {len cap : Nat} {zs : List ByteArray} (h : IsStrs w a len cap zs) : zs.length = len := by
  rcases h with ⟨_, rfl, _, rfl⟩ | ⟨x, _, _, _, h4, _⟩
  · rfl
  · exact h4
theorem IsStrs.some {w : World} {a : Option Addr} {len cap : Nat} {zs : List ByteArray} (h : IsStrs w a len cap zs) (h0 : 0 < len) : ∃ x, a = some x ∧ (∀ (i : Nat) s, zs[i]? = some s → w.cell? (x.add i) = some (.string s) ∧ s.size ≤ maxLen) := by
  rcases h with ⟨_, rfl, _, _⟩ | ⟨x, h1, _, _, _, h5⟩
  · omega
  · exact ⟨x, h1, h5⟩
def bytesOf (zs : List ByteArray) : List (List UInt8) := zs.map fun s => s.data.toList
end Go.Proofs.Ytjihkcjoaefppaa
