/- The plain arithmetic of a change of bytes, bit by bit: as a number of all bits it is the exclusive or with a power of two. No condition. -/
import Derived.Test.YtjihkcjoaefppaaCrcMath
namespace Go.Proofs.Ytjihkcjoaefppaa.CrcMath

theorem low_xor_n (n a y : Nat) (h : a < 2 ^ n) : a + 2 ^ n * y = a ^^^ (2 ^ n * y) := by
  have h2 : a ^^^ (2 ^ n * y) = 2 ^ n * y + a := by
    rw [Nat.xor_comm]
    apply Nat.eq_of_testBit_eq
    intro i
    rw [Nat.testBit_xor, Nat.testBit_two_pow_mul_add _ h, Nat.testBit_two_pow_mul]
    by_cases hi : i < n
    · have h8 : ¬ n ≤ i := by omega
      simp [hi, h8]
    · have : a.testBit i = false := Nat.testBit_lt_two_pow (Nat.lt_of_lt_of_le h (Nat.pow_le_pow_right (by decide) (by omega)))
      have h8 : n ≤ i := by omega
      simp [hi, this, h8]
  rw [h2]; omega

theorem mul_xor (n a b : Nat) : 2 ^ n * (a ^^^ b) = 2 ^ n * a ^^^ 2 ^ n * b := by
  apply Nat.eq_of_testBit_eq
  intro i
  rw [Nat.testBit_xor, Nat.testBit_two_pow_mul, Nat.testBit_two_pow_mul, Nat.testBit_two_pow_mul, Nat.testBit_xor]
  by_cases h : n ≤ i <;> simp [h]

theorem num_set (l : List UInt8) (j : Nat) (hj : j < l.length) (m : UInt8) : num (l.set j (l[j] ^^^ m)) = num l ^^^ (2 ^ (8 * j) * m.toNat) := by
  induction l generalizing j with
  | nil => simp at hj
  | cons c l ih =>
    cases j with
    | zero =>
      have hc : c.toNat < 256 := c.toNat_lt
      have hm : m.toNat < 256 := m.toNat_lt
      have hx : (c ^^^ m).toNat < 256 := (c ^^^ m).toNat_lt
      simp only [List.set_cons_zero, List.getElem_cons_zero, num, Nat.mul_zero, Nat.pow_zero, Nat.one_mul]
      rw [low_xor _ _ hx, low_xor _ _ hc, UInt8.toNat_xor, Nat.xor_assoc, Nat.xor_assoc, Nat.xor_comm m.toNat]
    | succ j =>
      have hc : c.toNat < 256 := c.toNat_lt
      simp only [List.set_cons_succ, List.getElem_cons_succ, num]
      rw [ih j (by simpa using hj), low_xor _ _ hc, low_xor _ _ hc, mul_xor 8, ← Nat.xor_assoc, ← Nat.mul_assoc, ← Nat.pow_add, Nat.mul_add, Nat.add_comm 8]

theorem num_bit (l : List UInt8) (k : Nat) (hk : k / 8 < l.length) (m : UInt8) (hm : m.toNat = 2 ^ (k % 8)) : num (l.set (k / 8) (l[k / 8] ^^^ m)) = num l ^^^ 2 ^ k := by
  rw [num_set l _ hk, hm, ← Nat.pow_add]
  congr 2
  omega

/-- the part of a change that lies below bit i -/
theorem below_one (ch i : Nat) (h : ch / 2 ^ i % 2 = 1) : ch % 2 ^ (i + 1) = (ch % 2 ^ i) ^^^ 2 ^ i := by
  rw [Nat.mod_pow_succ, h, low_xor_n i _ _ (Nat.mod_lt _ (Nat.two_pow_pos i)), Nat.mul_one]
theorem below_nil (ch i : Nat) (h : ch / 2 ^ i % 2 = 0) : ch % 2 ^ (i + 1) = ch % 2 ^ i := by
  rw [Nat.mod_pow_succ, h]; omega

/-- i bits of the change, from the bit a on, have been done to m: l -/
def Done (m l : List UInt8) (a ch i : Nat) : Prop := l.length = m.length ∧ num l ^^^ num m = 2 ^ a * (ch % 2 ^ i)
theorem Done.start (m : List UInt8) (a ch : Nat) : Done m m a ch 0 := ⟨rfl, by simp [Nat.mod_one]⟩
theorem Done.nil {m l : List UInt8} {a ch i : Nat} (h : Done m l a ch i) (hb : ch / 2 ^ i % 2 = 0) : Done m l a ch (i + 1) := ⟨h.1, by rw [h.2, below_nil ch i hb]⟩
theorem Done.one {m l : List UInt8} {a ch i : Nat} (h : Done m l a ch i) (hb : ch / 2 ^ i % 2 = 1) (hk : (a + i) / 8 < l.length) (b : UInt8) (hm : b.toNat = 2 ^ ((a + i) % 8)) :
    Done m (l.set ((a + i) / 8) (l[(a + i) / 8] ^^^ b)) a ch (i + 1) := by
  refine ⟨by rw [List.length_set]; exact h.1, ?_⟩
  rw [num_bit l (a + i) hk b hm, Nat.xor_assoc, Nat.xor_comm (2 ^ (a + i)), ← Nat.xor_assoc, h.2, below_one ch i hb, mul_xor, ← Nat.pow_add]
theorem Done.noticed {m l : List UInt8} {a ch : Nat} (h : Done m l a ch 32) (hc : ch < 4294967296) (h0 : ch ≠ 0) (ha : a ≤ 8 * m.length) : crc 0 l ≠ crc 0 m := by
  refine burst l m h.1 a ch hc h0 (by rw [h.1]; exact ha) ?_
  rw [h.2, Nat.mod_eq_of_lt (by simpa using hc)]
end Go.Proofs.Ytjihkcjoaefppaa.CrcMath
