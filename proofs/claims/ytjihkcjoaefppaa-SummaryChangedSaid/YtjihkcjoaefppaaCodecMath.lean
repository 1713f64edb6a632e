/- Numbers as bytes, the lowest byte first: the plain arithmetic. Every law holds for all numbers and lists. -/
namespace Go.Proofs.Ytjihkcjoaefppaa.CodecMath

/-- byte i of n -/
def byteOf (n i : Nat) : UInt8 := UInt8.ofNat (n / 256 ^ i)
/-- the first k bytes of n -/
def bytes (n k : Nat) : List UInt8 := (List.range k).map (byteOf n)
/-- the number whose bytes these are -/
def num : List UInt8 → Nat
  | [] => 0
  | b :: l => b.toNat + 256 * num l

theorem bytes_length (n k : Nat) : (bytes n k).length = k := by simp [bytes]
theorem bytes_get (n k j : Nat) (h : j < (bytes n k).length) : (bytes n k)[j] = byteOf n j := by simp [bytes]
theorem byteOf_nat (n i : Nat) : (byteOf n i).toNat = n / 256 ^ i % 256 := by
  unfold byteOf; rw [UInt8.toNat_ofNat']
theorem pow_two (k : Nat) : 2 ^ (8 * k) = 256 ^ k := by rw [Nat.pow_mul]
theorem num_append (a b : List UInt8) : num (a ++ b) = num a + 256 ^ a.length * num b := by
  induction a with
  | nil => simp [num]
  | cons x a ih => simp only [List.cons_append, num, ih, List.length_cons, Nat.pow_succ]; rw [Nat.mul_add, ← Nat.mul_assoc, Nat.mul_comm 256 (256 ^ a.length), Nat.add_assoc]
theorem num_lt (l : List UInt8) : num l < 256 ^ l.length := by
  induction l with
  | nil => simp [num]
  | cons x l ih =>
    have := x.toNat_lt
    simp only [num, List.length_cons, Nat.pow_succ]
    omega
theorem bytes_succ (n k : Nat) : bytes n (k + 1) = bytes n k ++ [byteOf n k] := by simp [bytes, List.range_succ]
theorem num_bytes_mod (n k : Nat) : num (bytes n k) = n % 256 ^ k := by
  induction k with
  | zero => simp [bytes, num, Nat.mod_one]
  | succ k ih =>
    rw [bytes_succ, num_append, ih, bytes_length]
    simp only [num, byteOf_nat]
    rw [Nat.pow_succ, Nat.mod_mul, Nat.mul_zero, Nat.add_zero]
theorem num_bytes (n k : Nat) (h : n < 256 ^ k) : num (bytes n k) = n := by rw [num_bytes_mod, Nat.mod_eq_of_lt h]
theorem or_high (x c i : Nat) (h : x < 2 ^ i) : x ||| c * 2 ^ i = x + c * 2 ^ i := by
  have := Nat.two_pow_add_eq_or_of_lt h c
  rw [Nat.mul_comm c, Nat.or_comm, ← this, Nat.add_comm]

/-- the document's Put: whether it gives bytes -/
def okPut (n k : Int) : Bool := decide (1 ≤ k) && decide (k ≤ 7) && decide (0 ≤ n) && decide (n < ((256 ^ k.toNat : Nat) : Int))
def putL (n k : Int) : List UInt8 := if okPut n k = true then bytes n.toNat k.toNat else []
def putE (n k : Int) : Int := if okPut n k = true then 0 else 1
theorem putL_ok {n k : Int} (h : okPut n k = true) : putL n k = bytes n.toNat k.toNat := if_pos h
theorem putE_ok {n k : Int} (h : okPut n k = true) : putE n k = 0 := if_pos h
theorem putL_no {n k : Int} (h : okPut n k = false) : putL n k = [] := if_neg (by simp [h])
theorem putE_no {n k : Int} (h : okPut n k = false) : putE n k = 1 := if_neg (by simp [h])

/-- the document's Get -/
def okAt (n : Nat) (at' k : Int) : Bool := decide (at' + k ≤ n)
def okArg (at' k : Int) : Bool := decide (1 ≤ k) && decide (k ≤ 7) && decide (0 ≤ at')
def getN (l : List UInt8) (at' k : Int) : Int := if okArg at' k = true ∧ okAt l.length at' k = true then (num ((l.drop at'.toNat).take k.toNat) : Int) else 0
def getE (l : List UInt8) (at' k : Int) : Int := if okArg at' k = true then (if okAt l.length at' k = true then 0 else 2) else 1

theorem pow_le (k : Nat) (h7 : k ≤ 7) : 256 ^ k ≤ 72057594037927936 := by
  have : 256 ^ k ≤ 256 ^ 7 := Nat.pow_le_pow_right (by decide) h7
  simpa using this
theorem pow_le6 (k : Nat) (h6 : k ≤ 6) : 256 ^ k ≤ 281474976710656 := by
  have : 256 ^ k ≤ 256 ^ 6 := Nat.pow_le_pow_right (by decide) h6
  simpa using this
theorem pow_lt {i k : Nat} (h : i < k) : 256 ^ (i + 1) ≤ 256 ^ k := Nat.pow_le_pow_right (by decide) h

end Go.Proofs.Ytjihkcjoaefppaa.CodecMath
