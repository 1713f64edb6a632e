/- A block of bytes that the call has made out of a string: what it holds behind stores, and the string that it is made back into. -/
import Derived.Test.YtjihkcjoaefppaaCrcSum
import Derived.Test.YtjihkcjoaefppaaBaseMod
import Derived.Laws.IdiomStrings
namespace Go.Proofs.Ytjihkcjoaefppaa
open Go.RowKit

/-- the bytes' block: its first cells are the bytes l, and none of it may not be written -/
def InRow (w wr : World) (g : Nat) (l : List UInt8) : Prop :=
  ∃ C : Array Value, wr.heap[g]? = some (.cells C 5 (C.size, C.size + 1)) ∧ l.length ≤ C.size ∧ (∀ (j : Nat) (h : j < l.length), C[j]? = some (.int .u8 (l[j].toNat : Int))) ∧ Below w.heap.size w wr ∧ w.heap.size ≤ g
theorem InRow.cell {w wr : World} {g : Nat} {l : List UInt8} (h : InRow w wr g l) (j : Nat) (hj : j < l.length) : wr.cell? ⟨g, j, none⟩ = some (.int .u8 (l[j].toNat : Int)) := by
  obtain ⟨C, hC, _, hc, _⟩ := h
  rw [cell_of_row _ _ _ _ _ _ hC]; exact hc j hj
theorem InRow.free {w wr : World} {g : Nat} {l : List UInt8} (h : InRow w wr g l) (j : Nat) (hj : j < l.length) : wr.frozen? ⟨g, j, none⟩ = false := by
  obtain ⟨C, hC, hl, _⟩ := h
  simp [World.frozen?, hC]; omega
theorem InRow.store {w wr : World} {g : Nat} {l : List UInt8} (h : InRow w wr g l) (j : Nat) (b : UInt8) : InRow w (wr.setCell ⟨g, j, none⟩ (.int .u8 (b.toNat : Int))) g (l.set j b) := by
  obtain ⟨C, hC, hl, hc, hb, hg⟩ := h
  refine ⟨C.setIfInBounds j (.int .u8 (b.toNat : Int)), ?_, by simpa using hl, ?_, hb.setCell hg _, hg⟩
  · rw [setCell_eq_setRow wr g j C 5 _ _ hC, Array.size_setIfInBounds]
    exact setRow_heap wr g C _ 5 _ hC
  · intro i hi
    have hi' : i < l.length := by simpa using hi
    rw [Array.getElem?_setIfInBounds, List.getElem_set]
    by_cases h : j = i
    · rw [if_pos h, if_pos h, if_pos (by omega)]
    · rw [if_neg h, if_neg h]; exact hc i hi'
theorem InRow.start {w w1 : World} (s : ByteArray) (hb : Below w.heap.size w w1) (cap : Nat) :
    InRow w (w1.drew.alloc (.cells (bytesRow s cap) 5 ((bytesRow s cap).size, (bytesRow s cap).size + 1))) w1.heap.size s.data.toList := by
  refine ⟨bytesRow s cap, heap_alloc_new w1.drew _, by simp [bytesRow], ?_, hb.drew.alloc hb.size _, hb.size⟩
  intro j hj
  have hj' : j < s.data.size := by simpa using hj
  have hj2 : j < s.size := hj'
  simp [bytesRow, Array.getElem?_append, hj2]

theorem pow8 (k : Nat) : 2 ^ (k % 8) < 256 := by
  have : 2 ^ (k % 8) < 2 ^ 8 := Nat.pow_lt_pow_right (by decide) (Nat.mod_lt _ (by decide))
  simpa using this
theorem bit_byte (k : Nat) : (UInt8.ofNat (2 ^ (k % 8))).toNat = 2 ^ (k % 8) := by
  rw [UInt8.toNat_ofNat']; exact Nat.mod_eq_of_lt (pow8 k)
theorem bit_val (c : UInt8) (k : Nat) : bits .xor .u8 (c.toNat : Int) ((2 : Int) ^ (k % 8) % 256) = ((c ^^^ UInt8.ofNat (2 ^ (k % 8))).toNat : Int) := by
  have h := u8_xor_nat c.toNat (2 ^ (k % 8)) c.toNat_lt (pow8 k)
  have e : ((2 : Int) ^ (k % 8) % 256) = ((2 ^ (k % 8) : Nat) : Int) := by
    have := pow8 k
    have e2 : ((2 ^ (k % 8) : Nat) : Int) = (2 : Int) ^ (k % 8) := by simp
    rw [← e2]
    generalize 2 ^ (k % 8) = X at this
    omega
  rw [e, h, UInt8.toNat_xor, bit_byte]
theorem InRow.back {w wr w1 : World} {g : Nat} {l : List UInt8} {n : Nat} (h : InRow w wr g l) (hl : l.length = n) (hb : Below wr.heap.size wr w1) (cap : Nat) :
    (convert 56 9 (.slice (some ⟨g, 0, none⟩) n cap)).run Try.prog w1 = .ok (.string ⟨l.toArray⟩) w1 := by
  subst hl
  refine run_convert_bytes_back w1 56 9 5 ⟨g, 0, none⟩ cap l Try.underlying56 Try.underlying5 Try.underlying9 ?_
  intro j hj
  have hadd : (⟨g, 0, none⟩ : Addr).add j = ⟨g, j, none⟩ := by unfold Addr.add; split <;> simp_all
  have hc := h.cell j hj
  rw [hadd, hb.cell (block_lt_of_cell hc), hc]
/-- the world behind '[]byte(s)', and the slice's room: names that the walk does not take apart -/
def bytesC (s : ByteArray) (w : World) : Nat := grownCap w s.size 0 5
def bytesW (s : ByteArray) (w : World) : World := w.drew.alloc (.cells (bytesRow s (bytesC s w)) 5 ((bytesRow s (bytesC s w)).size, (bytesRow s (bytesC s w)).size + 1))
theorem run_bytes (s : ByteArray) (n : Nat) (hn : s.size = n) (w : World) :
    (convert 9 56 (.string s)).run Try.prog w = .ok (.slice (some ⟨w.heap.size, 0, none⟩) n (bytesC s w)) (bytesW s w) := by
  subst hn
  exact run_bytes_of_string (P := Try.prog) w 9 56 5 s Try.underlying9 Try.underlying56 Try.underlying5
theorem inRow_bytes {w w1 : World} (s : ByteArray) (hb : Below w.heap.size w w1) : InRow w (bytesW s w1) w1.heap.size s.data.toList := InRow.start s hb _
end Go.Proofs.Ytjihkcjoaefppaa
