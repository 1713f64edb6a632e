/- Texts that belong together, part 1. -/

/- Numbers as bytes, the lowest byte first: the plain arithmetic. Every law holds for all numbers and lists. -/
namespace Go.Proofs.Ythhggiifbldaeaa.CodecMath

/-- byte i of n -/
def byteOf (n i : Nat) : UInt8 := UInt8.ofNat (n / 256 ^ i)
/-- the first k bytes of n -/
def bytes (n k : Nat) : List UInt8 := (List.range k).map (byteOf n)
/-- the number whose bytes these are -/
def num : List UInt8 → Nat
  | [] => 0
  | b :: l => b.toNat + 256 * num l

theorem bytes_length (n k : Nat) : (bytes n k).length = k := by simp [bytes]
theorem bytes_get (n k j : Nat) (h : j < (bytes n k).length) : (bytes n k)[j] = byteOf n j := by simp [bytes]
theorem byteOf_nat (n i : Nat) : (byteOf n i).toNat = n / 256 ^ i % 256 := by
  unfold byteOf; rw [UInt8.toNat_ofNat']
theorem pow_two (k : Nat) : 2 ^ (8 * k) = 256 ^ k := by rw [Nat.pow_mul]
theorem num_append (a b : List UInt8) : num (a ++ b) = num a + 256 ^ a.length * num b := by
  induction a with
  | nil => simp [num]
  | cons x a ih => simp only [List.cons_append, num, ih, List.length_cons, Nat.pow_succ]; rw [Nat.mul_add, ← Nat.mul_assoc, Nat.mul_comm 256 (256 ^ a.length), Nat.add_assoc]
theorem num_lt (l : List UInt8) : num l < 256 ^ l.length := by
  induction l with
  | nil => simp [num]
  | cons x l ih =>
    have := x.toNat_lt
    simp only [num, List.length_cons, Nat.pow_succ]
    omega
theorem bytes_succ (n k : Nat) : bytes n (k + 1) = bytes n k ++ [byteOf n k] := by simp [bytes, List.range_succ]
theorem num_bytes_mod (n k : Nat) : num (bytes n k) = n % 256 ^ k := by
  induction k with
  | zero => simp [bytes, num, Nat.mod_one]
  | succ k ih =>
    rw [bytes_succ, num_append, ih, bytes_length]
    simp only [num, byteOf_nat]
    rw [Nat.pow_succ, Nat.mod_mul, Nat.mul_zero, Nat.add_zero]
theorem num_bytes (n k : Nat) (h : n < 256 ^ k) : num (bytes n k) = n := by rw [num_bytes_mod, Nat.mod_eq_of_lt h]
theorem or_high (x c i : Nat) (h : x < 2 ^ i) : x ||| c * 2 ^ i = x + c * 2 ^ i := by
  have := Nat.two_pow_add_eq_or_of_lt h c
  rw [Nat.mul_comm c, Nat.or_comm, ← this, Nat.add_comm]

/-- the document's Put: whether it gives bytes -/
def okPut (n k : Int) : Bool := decide (1 ≤ k) && decide (k ≤ 7) && decide (0 ≤ n) && decide (n < ((256 ^ k.toNat : Nat) : Int))
def putL (n k : Int) : List UInt8 := if okPut n k = true then bytes n.toNat k.toNat else []
def putE (n k : Int) : Int := if okPut n k = true then 0 else 1
theorem putL_ok {n k : Int} (h : okPut n k = true) : putL n k = bytes n.toNat k.toNat := if_pos h
theorem putE_ok {n k : Int} (h : okPut n k = true) : putE n k = 0 := if_pos h
theorem putL_no {n k : Int} (h : okPut n k = false) : putL n k = [] := if_neg (by simp [h])
theorem putE_no {n k : Int} (h : okPut n k = false) : putE n k = 1 := if_neg (by simp [h])

/-- the document's Get -/
def okAt (n : Nat) (at' k : Int) : Bool := decide (at' + k ≤ n)
def okArg (at' k : Int) : Bool := decide (1 ≤ k) && decide (k ≤ 7) && decide (0 ≤ at')
def getN (l : List UInt8) (at' k : Int) : Int := if okArg at' k = true ∧ okAt l.length at' k = true then (num ((l.drop at'.toNat).take k.toNat) : Int) else 0
def getE (l : List UInt8) (at' k : Int) : Int := if okArg at' k = true then (if okAt l.length at' k = true then 0 else 2) else 1

theorem pow_le (k : Nat) (h7 : k ≤ 7) : 256 ^ k ≤ 72057594037927936 := by
  have : 256 ^ k ≤ 256 ^ 7 := Nat.pow_le_pow_right (by decide) h7
  simpa using this
theorem pow_le6 (k : Nat) (h6 : k ≤ 6) : 256 ^ k ≤ 281474976710656 := by
  have : 256 ^ k ≤ 256 ^ 6 := Nat.pow_le_pow_right (by decide) h6
  simpa using this
theorem pow_lt {i k : Nat} (h : i < k) : 256 ^ (i + 1) ≤ 256 ^ k := Nat.pow_le_pow_right (by decide) h

end Go.Proofs.Ythhggiifbldaeaa.CodecMath

/- The plain arithmetic of CRC-32, taken bit by bit over natural numbers of any width: one shift is linear and one-to-one on 32 bits; bytes that are fed one after the other are one number that is shifted as often as it has bits. No condition. -/
namespace Go.Proofs.Ythhggiifbldaeaa.CrcMath

def poly : Nat := 3988292384
/-- one bit is taken off -/
def sh (x : Nat) : Nat := (x >>> 1) ^^^ (if x % 2 = 1 then poly else 0)
/-- n bits are taken off -/
def shn : Nat → Nat → Nat
  | 0, x => x
  | n + 1, x => shn n (sh x)
def tab (j : Nat) : Nat := shn 8 j

theorem sr1 (x : Nat) : x >>> 1 = x / 2 := by simp [Nat.shiftRight_eq_div_pow]

theorem xor_mod_two (a b : Nat) : (a ^^^ b) % 2 = (a + b) % 2 := by
  have h := Nat.testBit_xor a b 0
  simp only [Nat.testBit_zero] at h
  rcases Nat.mod_two_eq_zero_or_one a with ha | ha <;> rcases Nat.mod_two_eq_zero_or_one b with hb | hb <;>
    rcases Nat.mod_two_eq_zero_or_one (a ^^^ b) with hc | hc <;> simp [ha, hb, hc] at h <;> omega

theorem sh_xor (a b : Nat) : sh (a ^^^ b) = sh a ^^^ sh b := by
  unfold sh
  rw [Nat.shiftRight_xor_distrib, xor_mod_two]
  rcases Nat.mod_two_eq_zero_or_one a with ha | ha <;> rcases Nat.mod_two_eq_zero_or_one b with hb | hb
  · rw [if_neg (by omega), if_neg (by omega), if_neg (by omega)]; simp
  · rw [if_pos (by omega), if_neg (by omega), if_pos (by omega)]; simp [Nat.xor_assoc]
  · rw [if_pos (by omega), if_pos (by omega), if_neg (by omega)]
    simp only [Nat.xor_zero]
    rw [Nat.xor_assoc, Nat.xor_assoc, Nat.xor_comm poly]
  · rw [if_neg (by omega), if_pos (by omega), if_pos (by omega)]
    simp only [Nat.xor_zero]
    have e : (a >>> 1 ^^^ poly) ^^^ (b >>> 1 ^^^ poly) = (a >>> 1 ^^^ b >>> 1) ^^^ (poly ^^^ poly) := by
      simp only [Nat.xor_assoc, Nat.xor_comm poly]
    rw [e, Nat.xor_self, Nat.xor_zero]

theorem shn_xor (n a b : Nat) : shn n (a ^^^ b) = shn n a ^^^ shn n b := by
  induction n generalizing a b with
  | zero => rfl
  | succ n ih => simp only [shn]; rw [sh_xor, ih]

theorem shn_add (m n x : Nat) : shn (m + n) x = shn n (shn m x) := by
  induction m generalizing x with
  | zero => simp [shn]
  | succ m ih => rw [Nat.succ_add]; simp only [shn]; exact ih _

theorem shn_succ (n x : Nat) : shn (n + 1) x = sh (shn n x) := by rw [shn_add]; rfl

theorem sh_zero : sh 0 = 0 := by decide
theorem shn_zero (n : Nat) : shn n 0 = 0 := by
  induction n with
  | zero => rfl
  | succ n ih => simp only [shn]; rw [sh_zero, ih]

theorem sh_twice (y : Nat) : sh (2 * y) = y := by
  unfold sh
  rw [if_neg (by omega), Nat.xor_zero, sr1]; omega

theorem shn_times (k y : Nat) : shn k (2 ^ k * y) = y := by
  induction k with
  | zero => simp [shn]
  | succ k ih => simp only [shn]; rw [Nat.pow_succ, Nat.mul_comm (2 ^ k) 2, Nat.mul_assoc, sh_twice, ih]

theorem sh_lt (x : Nat) (h : x < 4294967296) : sh x < 4294967296 := by
  unfold sh
  have h1 : x >>> 1 < 2 ^ 32 := by rw [sr1]; omega
  have h2 : (if x % 2 = 1 then poly else 0) < 2 ^ 32 := by split <;> decide
  exact Nat.xor_lt_two_pow h1 h2
theorem shn_lt (n x : Nat) (h : x < 4294967296) : shn n x < 4294967296 := by
  induction n generalizing x with
  | zero => exact h
  | succ n ih => exact ih _ (sh_lt x h)

theorem sh_ne (x : Nat) (h : x < 4294967296) (h0 : x ≠ 0) : sh x ≠ 0 := by
  unfold sh
  by_cases hp : x % 2 = 1
  · rw [if_pos hp]
    intro he
    have h1 : x >>> 1 = poly := by
      have := congrArg (· ^^^ poly) he
      simpa [Nat.xor_assoc] using this
    rw [sr1] at h1
    unfold poly at h1; omega
  · rw [if_neg hp, Nat.xor_zero, sr1]; omega
theorem shn_ne (n x : Nat) (h : x < 4294967296) (h0 : x ≠ 0) : shn n x ≠ 0 := by
  induction n generalizing x with
  | zero => exact h0
  | succ n ih => exact ih _ (sh_lt x h) (sh_ne x h h0)

/-- bytes as one number, the first one lowest -/
def num : List UInt8 → Nat
  | [] => 0
  | c :: l => c.toNat + 256 * num l
/-- bytes one after the other -/
def feed : Nat → List UInt8 → Nat
  | x, [] => x
  | x, c :: l => feed (shn 8 (x ^^^ c.toNat)) l

theorem low_xor (a y : Nat) (h : a < 256) : a + 256 * y = a ^^^ (2 ^ 8 * y) := by
  have h2 : a ^^^ (2 ^ 8 * y) = 2 ^ 8 * y + a := by
    rw [Nat.xor_comm]
    apply Nat.eq_of_testBit_eq
    intro i
    rw [Nat.testBit_xor, Nat.testBit_two_pow_mul_add _ (by simpa using h), Nat.testBit_two_pow_mul]
    by_cases hi : i < 8
    · have h8 : ¬ 8 ≤ i := by omega
      simp [hi, h8]
    · have : a.testBit i = false := Nat.testBit_lt_two_pow (Nat.lt_of_lt_of_le h (by
        have : 2 ^ 8 ≤ 2 ^ i := Nat.pow_le_pow_right (by decide) (by omega)
        simpa using this))
      have h8 : 8 ≤ i := by omega
      simp [hi, this, h8]
  rw [h2]; omega

theorem feed_num (l : List UInt8) (x : Nat) : feed x l = shn (8 * l.length) (x ^^^ num l) := by
  induction l generalizing x with
  | nil => simp [feed, num, shn]
  | cons c l ih =>
    have hc : c.toNat < 256 := c.toNat_lt
    simp only [feed, num, List.length_cons]
    rw [ih, low_xor _ _ hc, ← Nat.xor_assoc, Nat.mul_add, Nat.add_comm (8 * l.length), shn_add, shn_xor 8 (x ^^^ c.toNat), shn_times]

theorem feed_append (l m : List UInt8) (x : Nat) : feed x (l ++ m) = feed (feed x l) m := by
  induction l generalizing x with
  | nil => rfl
  | cons c l ih => simp only [List.cons_append, feed]; exact ih _

theorem feed_lt (l : List UInt8) (x : Nat) (h : x < 4294967296) : feed x l < 4294967296 := by
  induction l generalizing x with
  | nil => exact h
  | cons c l ih =>
    have hc : c.toNat < 256 := c.toNat_lt
    exact ih _ (shn_lt 8 _ (Nat.xor_lt_two_pow (n := 32) h (by omega)))

/-- eight bits at once, by the table -/
theorem step_tab (x c : Nat) : shn 8 (x ^^^ c) = (x >>> 8) ^^^ tab ((x % 256) ^^^ c) := by
  have e : x = (x % 256) ^^^ (2 ^ 8 * (x >>> 8)) := by
    rw [← low_xor _ _ (Nat.mod_lt _ (by decide)), Nat.shiftRight_eq_div_pow]; omega
  have e2 : x ^^^ c = ((x % 256) ^^^ c) ^^^ (2 ^ 8 * (x >>> 8)) := by
    conv => lhs; rw [e]
    rw [Nat.xor_assoc, Nat.xor_assoc, Nat.xor_comm c]
  rw [e2, shn_xor, shn_times]
  exact Nat.xor_comm _ _

theorem idx_lt (x c : Nat) (hc : c < 256) : (x % 256) ^^^ c < 256 :=
  Nat.xor_lt_two_pow (n := 8) (Nat.mod_lt _ (by decide)) hc

def not32 (x : Nat) : Nat := 4294967295 - x
theorem not32_not32 (x : Nat) (h : x < 4294967296) : not32 (not32 x) = x := by unfold not32; omega
theorem not32_lt (x : Nat) : not32 x < 4294967296 := by unfold not32; omega
/-- the checksum, continued from s -/
def crc (s : Nat) (l : List UInt8) : Nat := not32 (feed (not32 s) l)
theorem crc_lt (s : Nat) (l : List UInt8) : crc s l < 4294967296 := not32_lt _
theorem crc_append (s : Nat) (l m : List UInt8) : crc s (l ++ m) = crc (crc s l) m := by
  unfold crc
  rw [feed_append, not32_not32 _ (feed_lt _ _ (not32_lt _))]

/-- a change within 32 consecutive bits is noticed -/
theorem burst (l m : List UInt8) (hl : l.length = m.length) (at_ change : Nat) (hc : change < 4294967296) (h0 : change ≠ 0) (hat : at_ ≤ 8 * l.length)
    (hx : num l ^^^ num m = 2 ^ at_ * change) : crc 0 l ≠ crc 0 m := by
  intro he
  have hf : feed (not32 0) l = feed (not32 0) m := by
    have := congrArg not32 he
    unfold crc at this
    rwa [not32_not32 _ (feed_lt _ _ (not32_lt _)), not32_not32 _ (feed_lt _ _ (not32_lt _))] at this
  rw [feed_num, feed_num, hl, shn_xor, shn_xor] at hf
  have h1 : shn (8 * m.length) (num l) = shn (8 * m.length) (num m) := by
    have := congrArg (fun t => shn (8 * m.length) (not32 0) ^^^ t) hf
    simpa [← Nat.xor_assoc] using this
  have h2 : shn (8 * m.length) (num l ^^^ num m) = 0 := by rw [shn_xor, h1, Nat.xor_self]
  rw [hx] at h2
  obtain ⟨r, hr⟩ : ∃ r, 8 * m.length = at_ + r := ⟨8 * m.length - at_, by omega⟩
  rw [hr, shn_add, shn_times] at h2
  exact shn_ne r change hc h0 h2

end Go.Proofs.Ythhggiifbldaeaa.CrcMath

/- The plain arithmetic of a change of bytes, bit by bit: as a number of all bits it is the exclusive or with a power of two. No condition. -/
namespace Go.Proofs.Ythhggiifbldaeaa.CrcMath

theorem low_xor_n (n a y : Nat) (h : a < 2 ^ n) : a + 2 ^ n * y = a ^^^ (2 ^ n * y) := by
  have h2 : a ^^^ (2 ^ n * y) = 2 ^ n * y + a := by
    rw [Nat.xor_comm]
    apply Nat.eq_of_testBit_eq
    intro i
    rw [Nat.testBit_xor, Nat.testBit_two_pow_mul_add _ h, Nat.testBit_two_pow_mul]
    by_cases hi : i < n
    · have h8 : ¬ n ≤ i := by omega
      simp [hi, h8]
    · have : a.testBit i = false := Nat.testBit_lt_two_pow (Nat.lt_of_lt_of_le h (Nat.pow_le_pow_right (by decide) (by omega)))
      have h8 : n ≤ i := by omega
      simp [hi, this, h8]
  rw [h2]; omega

theorem mul_xor (n a b : Nat) : 2 ^ n * (a ^^^ b) = 2 ^ n * a ^^^ 2 ^ n * b := by
  apply Nat.eq_of_testBit_eq
  intro i
  rw [Nat.testBit_xor, Nat.testBit_two_pow_mul, Nat.testBit_two_pow_mul, Nat.testBit_two_pow_mul, Nat.testBit_xor]
  by_cases h : n ≤ i <;> simp [h]

theorem num_set (l : List UInt8) (j : Nat) (hj : j < l.length) (m : UInt8) : num (l.set j (l[j] ^^^ m)) = num l ^^^ (2 ^ (8 * j) * m.toNat) := by
  induction l generalizing j with
  | nil => simp at hj
  | cons c l ih =>
    cases j with
    | zero =>
      have hc : c.toNat < 256 := c.toNat_lt
      have hm : m.toNat < 256 := m.toNat_lt
      have hx : (c ^^^ m).toNat < 256 := (c ^^^ m).toNat_lt
      simp only [List.set_cons_zero, List.getElem_cons_zero, num, Nat.mul_zero, Nat.pow_zero, Nat.one_mul]
      rw [low_xor _ _ hx, low_xor _ _ hc, UInt8.toNat_xor, Nat.xor_assoc, Nat.xor_assoc, Nat.xor_comm m.toNat]
    | succ j =>
      have hc : c.toNat < 256 := c.toNat_lt
      simp only [List.set_cons_succ, List.getElem_cons_succ, num]
      rw [ih j (by simpa using hj), low_xor _ _ hc, low_xor _ _ hc, mul_xor 8, ← Nat.xor_assoc, ← Nat.mul_assoc, ← Nat.pow_add, Nat.mul_add, Nat.add_comm 8]

theorem num_bit (l : List UInt8) (k : Nat) (hk : k / 8 < l.length) (m : UInt8) (hm : m.toNat = 2 ^ (k % 8)) : num (l.set (k / 8) (l[k / 8] ^^^ m)) = num l ^^^ 2 ^ k := by
  rw [num_set l _ hk, hm, ← Nat.pow_add]
  congr 2
  omega

/-- the part of a change that lies below bit i -/
theorem below_one (ch i : Nat) (h : ch / 2 ^ i % 2 = 1) : ch % 2 ^ (i + 1) = (ch % 2 ^ i) ^^^ 2 ^ i := by
  rw [Nat.mod_pow_succ, h, low_xor_n i _ _ (Nat.mod_lt _ (Nat.two_pow_pos i)), Nat.mul_one]
theorem below_nil (ch i : Nat) (h : ch / 2 ^ i % 2 = 0) : ch % 2 ^ (i + 1) = ch % 2 ^ i := by
  rw [Nat.mod_pow_succ, h]; omega

/-- i bits of the change, from the bit a on, have been done to m: l -/
def Done (m l : List UInt8) (a ch i : Nat) : Prop := l.length = m.length ∧ num l ^^^ num m = 2 ^ a * (ch % 2 ^ i)
theorem Done.start (m : List UInt8) (a ch : Nat) : Done m m a ch 0 := ⟨rfl, by simp [Nat.mod_one]⟩
theorem Done.nil {m l : List UInt8} {a ch i : Nat} (h : Done m l a ch i) (hb : ch / 2 ^ i % 2 = 0) : Done m l a ch (i + 1) := ⟨h.1, by rw [h.2, below_nil ch i hb]⟩
theorem Done.one {m l : List UInt8} {a ch i : Nat} (h : Done m l a ch i) (hb : ch / 2 ^ i % 2 = 1) (hk : (a + i) / 8 < l.length) (b : UInt8) (hm : b.toNat = 2 ^ ((a + i) % 8)) :
    Done m (l.set ((a + i) / 8) (l[(a + i) / 8] ^^^ b)) a ch (i + 1) := by
  refine ⟨by rw [List.length_set]; exact h.1, ?_⟩
  rw [num_bit l (a + i) hk b hm, Nat.xor_assoc, Nat.xor_comm (2 ^ (a + i)), ← Nat.xor_assoc, h.2, below_one ch i hb, mul_xor, ← Nat.pow_add]
theorem Done.noticed {m l : List UInt8} {a ch : Nat} (h : Done m l a ch 32) (hc : ch < 4294967296) (h0 : ch ≠ 0) (ha : a ≤ 8 * m.length) : crc 0 l ≠ crc 0 m := by
  refine burst l m h.1 a ch hc h0 (by rw [h.1]; exact ha) ?_
  rw [h.2, Nat.mod_eq_of_lt (by simpa using hc)]
end Go.Proofs.Ythhggiifbldaeaa.CrcMath

/- Records and their sectors: the plain arithmetic. A record that can be encoded is read back from its sector; a sector with one bit changed has another checksum. -/
namespace Go.Proofs.Ythhggiifbldaeaa.RecMath
open CodecMath (bytes num)
open CrcMath (crc)

/-- bytes 0 behind l, n bytes in all -/
def pad (l : List UInt8) (n : Nat) : List UInt8 := l ++ List.replicate (n - l.length) 0
/-- a record -/
structure Rec where
  kind : Int
  block : Int
  version : Int
  move : Int
  payload : List UInt8
/-- the record of zeros -/
def Rec.zero : Rec := ⟨0, 0, 0, 0, []⟩
/-- the error of a record -/
def checkE (r : Rec) : Int :=
  if r.kind < 1 ∨ 6 < r.kind then 3
  else if r.block < 0 ∨ 4294967295 < r.block ∨ r.version < 0 ∨ 1099511627776 < r.version ∨ r.move < 0 ∨ 255 < r.move then 1
  else if 20 < r.payload.length ∨ (r.kind = 1 ∧ r.payload.length ≠ 16) ∨ (r.kind = 2 ∧ r.payload.length ≠ 0) then 2
  else 0
/-- the bytes ahead of the checksum -/
def body (r : Rec) : List UInt8 :=
  [90, 65] ++ bytes r.kind.toNat 1 ++ bytes r.payload.length 1 ++ bytes r.block.toNat 4 ++ bytes r.version.toNat 6 ++ bytes r.move.toNat 1 ++ [0] ++ pad r.payload 20
def sealL (l : List UInt8) : List UInt8 := l ++ bytes (crc 0 l) 4
def encL (r : Rec) : List UInt8 := if checkE r = 0 then sealL (body r) else []
/-- the number of the k bytes from a on -/
def field (l : List UInt8) (a k : Nat) : Nat := num ((l.drop a).take k)
/-- what a sector's fields say -/
def read (l : List UInt8) : Rec := ⟨field l 2 1, field l 4 4, field l 8 6, field l 14 1, (l.drop 16).take (min (field l 3 1) 20)⟩
/-- the error of a sector -/
def decE (l : List UInt8) : Int :=
  if l.length ≠ 40 then 2
  else if field l 36 4 ≠ crc 0 (l.take 36) then 4
  else if checkE (read l) = 0 ∧ encL (read l) = l then 0
  else 3
def dec (l : List UInt8) : Rec := if decE l = 0 then read l else Rec.zero

theorem pad_length (l : List UInt8) (n : Nat) (h : l.length ≤ n) : (pad l n).length = n := by
  simp [pad]; omega
theorem check_ok {r : Rec} (h : checkE r = 0) : 1 ≤ r.kind ∧ r.kind ≤ 6 ∧ 0 ≤ r.block ∧ r.block ≤ 4294967295 ∧ 0 ≤ r.version ∧ r.version ≤ 1099511627776 ∧ 0 ≤ r.move ∧ r.move ≤ 255 ∧ r.payload.length ≤ 20 ∧ (r.kind = 1 → r.payload.length = 16) ∧ (r.kind = 2 → r.payload.length = 0) := by
  unfold checkE at h
  split at h
  · omega
  · split at h
    · omega
    · split at h <;> omega
theorem body_length {r : Rec} (h : r.payload.length ≤ 20) : (body r).length = 36 := by
  simp only [body, List.length_append, CodecMath.bytes_length, pad_length _ _ h]
  rfl
theorem seal_length (l : List UInt8) : (sealL l).length = l.length + 4 := by simp [sealL, CodecMath.bytes_length]
theorem enc_length {r : Rec} (h : checkE r = 0) : (encL r).length = 40 := by
  rw [encL, if_pos h, seal_length, body_length (check_ok h).2.2.2.2.2.2.2.2.1]
theorem enc_no {r : Rec} (h : checkE r ≠ 0) : encL r = [] := if_neg h

theorem field_at (a b c : List UInt8) (n k : Nat) (h : a.length = n) (hb : b.length = k) : field (a ++ b ++ c) n k = num b := by
  unfold field
  rw [List.append_assoc, List.drop_left' h, List.take_left' hb]
theorem field_byte (a c : List UInt8) (x n : Nat) (h : a.length = n) (hx : x < 256) : field (a ++ bytes x 1 ++ c) n 1 = x := by
  rw [field_at a _ c n 1 h (CodecMath.bytes_length x 1), CodecMath.num_bytes x 1 (by simpa using hx)]

theorem read_seal {r : Rec} (h : checkE r = 0) : read (sealL (body r)) = r := by
  obtain ⟨h1, h2, h3, h4, h5, h6, h7, h8, h9, -, -⟩ := check_ok h
  have e1 : field (sealL (body r)) 2 1 = r.kind.toNat := by
    have := field_byte [90, 65] (bytes r.payload.length 1 ++ bytes r.block.toNat 4 ++ bytes r.version.toNat 6 ++ bytes r.move.toNat 1 ++ [0] ++ pad r.payload 20 ++ bytes (crc 0 (body r)) 4) r.kind.toNat 2 rfl (by omega)
    rw [← this]; simp only [sealL, body, List.append_assoc]
  have e2 : field (sealL (body r)) 3 1 = r.payload.length := by
    have := field_byte ([90, 65] ++ bytes r.kind.toNat 1) (bytes r.block.toNat 4 ++ bytes r.version.toNat 6 ++ bytes r.move.toNat 1 ++ [0] ++ pad r.payload 20 ++ bytes (crc 0 (body r)) 4) r.payload.length 3 (by simp [CodecMath.bytes_length]) (by omega)
    rw [← this]; simp only [sealL, body, List.append_assoc]
  have e3 : field (sealL (body r)) 4 4 = r.block.toNat := by
    have := field_at ([90, 65] ++ bytes r.kind.toNat 1 ++ bytes r.payload.length 1) (bytes r.block.toNat 4) (bytes r.version.toNat 6 ++ bytes r.move.toNat 1 ++ [0] ++ pad r.payload 20 ++ bytes (crc 0 (body r)) 4) 4 4 (by simp [CodecMath.bytes_length]) (CodecMath.bytes_length _ _)
    rw [CodecMath.num_bytes _ 4 (by simp; omega)] at this
    rw [← this]; simp only [sealL, body, List.append_assoc]
  have e4 : field (sealL (body r)) 8 6 = r.version.toNat := by
    have := field_at ([90, 65] ++ bytes r.kind.toNat 1 ++ bytes r.payload.length 1 ++ bytes r.block.toNat 4) (bytes r.version.toNat 6) (bytes r.move.toNat 1 ++ [0] ++ pad r.payload 20 ++ bytes (crc 0 (body r)) 4) 8 6 (by simp [CodecMath.bytes_length]) (CodecMath.bytes_length _ _)
    rw [CodecMath.num_bytes _ 6 (by simp; omega)] at this
    rw [← this]; simp only [sealL, body, List.append_assoc]
  have e5 : field (sealL (body r)) 14 1 = r.move.toNat := by
    have := field_byte ([90, 65] ++ bytes r.kind.toNat 1 ++ bytes r.payload.length 1 ++ bytes r.block.toNat 4 ++ bytes r.version.toNat 6) ([0] ++ pad r.payload 20 ++ bytes (crc 0 (body r)) 4) r.move.toNat 14 (by simp [CodecMath.bytes_length]) (by omega)
    rw [← this]; simp only [sealL, body, List.append_assoc]
  have e6 : ((sealL (body r)).drop 16).take r.payload.length = r.payload := by
    have e : sealL (body r) = ([90, 65] ++ bytes r.kind.toNat 1 ++ bytes r.payload.length 1 ++ bytes r.block.toNat 4 ++ bytes r.version.toNat 6 ++ bytes r.move.toNat 1 ++ [0]) ++ (r.payload ++ (List.replicate (20 - r.payload.length) 0 ++ bytes (crc 0 (body r)) 4)) := by
      simp only [sealL, body, pad, List.append_assoc]
    rw [e, List.drop_left' (by simp [CodecMath.bytes_length]), List.take_left' rfl]
  unfold read
  rw [e1, e2, e3, e4, e5, Nat.min_eq_left h9, e6]
  cases r
  simp only [Rec.mk.injEq, and_true]
  simp only at h1 h3 h5 h7
  omega
theorem sum_seal {l : List UInt8} (h : l.length = 36) : field (sealL l) 36 4 = crc 0 ((sealL l).take 36) := by
  have e : (sealL l).take 36 = l := by rw [sealL, List.take_left' h]
  rw [e]
  have := field_at l (bytes (crc 0 l) 4) [] 36 4 h (CodecMath.bytes_length _ _)
  rw [List.append_nil] at this
  rw [sealL, this, CodecMath.num_bytes _ 4 (by simpa using CrcMath.crc_lt 0 l)]
theorem dec_enc {r : Rec} (h : checkE r = 0) : decE (encL r) = 0 ∧ dec (encL r) = r := by
  have hb := body_length (check_ok h).2.2.2.2.2.2.2.2.1
  have e : encL r = sealL (body r) := if_pos h
  have hr := read_seal h
  have h0 : decE (encL r) = 0 := by
    unfold decE
    rw [if_neg (by rw [enc_length h]; simp), e, if_neg (by rw [sum_seal hb]; simp), hr, if_pos ⟨h, e⟩]
  exact ⟨h0, by rw [dec, if_pos h0, e, hr]⟩
/-- a sector that is decoded is the encoding of what was read -/
theorem enc_dec {l : List UInt8} (h : decE l = 0) : checkE (dec l) = 0 ∧ encL (dec l) = l ∧ dec l = read l := by
  have e : dec l = read l := if_pos h
  rw [e]
  unfold decE at h
  split at h
  · omega
  · split at h
    · omega
    · split at h
      · rename_i hh; exact ⟨hh.1, hh.2, rfl⟩
      · omega

/-! a bit that is changed -/
theorem sum_noticed (l : List UInt8) (j : Nat) (hj : j < l.length) (m : UInt8) (hm : m ≠ 0) : crc 0 (l.set j (l[j] ^^^ m)) ≠ crc 0 l := by
  have hx := CrcMath.num_set l j hj m
  have hm0 : m.toNat ≠ 0 := fun h => hm (UInt8.toNat_inj.1 (by simpa using h))
  refine CrcMath.burst _ l (by simp) (8 * j) m.toNat (by have := m.toNat_lt; omega) hm0 (by simp; omega) ?_
  rw [hx, Nat.xor_assoc, Nat.xor_comm (2 ^ (8 * j) * m.toNat), ← Nat.xor_assoc, Nat.xor_self, Nat.zero_xor]
theorem num_inj (a b : List UInt8) (h : a.length = b.length) (e : num a = num b) : a = b := by
  induction a generalizing b with
  | nil => cases b with
    | nil => rfl
    | cons => simp at h
  | cons x a ih => cases b with
    | nil => simp at h
    | cons y b =>
      have hx := x.toNat_lt
      have hy := y.toNat_lt
      simp only [num] at e
      rw [ih b (by simpa using h) (by omega), UInt8.toNat_inj.1 (by omega : x.toNat = y.toNat)]
theorem xor_ne (x m : UInt8) (hm : m ≠ 0) : x ^^^ m ≠ x := by
  intro h
  apply hm
  have := congrArg (x ^^^ ·) h
  simpa [← UInt8.xor_assoc] using this
/-- a sector with a right checksum in which one byte was changed has a wrong one -/
theorem flip_sum {l : List UInt8} (hl : l.length = 40) (hs : field l 36 4 = crc 0 (l.take 36)) (j : Nat) (hj : j < l.length) (m : UInt8) (hm : m ≠ 0) : decE (l.set j (l[j] ^^^ m)) = 4 := by
  unfold decE
  rw [if_neg (by simp [hl]), if_pos]
  by_cases h : j < 36
  · have e1 : field (l.set j (l[j] ^^^ m)) 36 4 = field l 36 4 := by
      unfold field; rw [List.drop_set_of_lt h]
    have e2 : (l.set j (l[j] ^^^ m)).take 36 = (l.take 36).set j ((l.take 36)[j]'(by simp; omega) ^^^ m) := by
      rw [List.take_set, List.getElem_take]
    rw [e1, e2, hs]
    exact (sum_noticed (l.take 36) j (by simp; omega) m hm).symm
  · have e2 : (l.set j (l[j] ^^^ m)).take 36 = l.take 36 := by rw [List.take_set_of_le (by omega)]
    rw [e2, ← hs]
    unfold field
    intro e
    have h1 := num_inj _ _ (by simp) e
    have e3 : ((l.set j (l[j] ^^^ m)).drop 36).take 4 = ((l.drop 36).take 4).set (j - 36) (l[j] ^^^ m) := by
      rw [List.drop_set, if_neg (by omega), List.take_set]
    rw [e3] at h1
    have h2 := congrArg (fun t => t[j - 36]?) h1
    rw [List.getElem?_set_self (by simp; omega), List.getElem?_take, if_pos (by omega), List.getElem?_drop, show 36 + (j - 36) = j by omega, List.getElem?_eq_getElem hj] at h2
    exact xor_ne _ m hm (Option.some.inj h2)

/-- the copy of a record -/
def copyOk (r : Rec) : Bool := decide (checkE r = 0) && (decide (r.kind = 1) || decide (r.kind = 2))
def copy (r : Rec) : Rec := if copyOk r = true then { r with move := min (r.move + 1) 255 } else Rec.zero
end Go.Proofs.Ythhggiifbldaeaa.RecMath

/- Sectors that are encodings: the plain arithmetic of the decoder. A sector with a right checksum is an encoding exactly if its mark, its length, its spare byte and its padding are as the encoder writes them. -/
namespace Go.Proofs.Ythhggiifbldaeaa.RecMath
open CodecMath (bytes num)
open CrcMath (crc)

/-- the k bytes from a on -/
def seg (l : List UInt8) (a k : Nat) : List UInt8 := (l.drop a).take k
theorem seg_split (l : List UInt8) (a k m : Nat) : seg l a (k + m) = seg l a k ++ seg l (a + k) m := by
  unfold seg
  rw [List.take_add, List.drop_drop]
theorem seg_len {l : List UInt8} (hl : l.length = 40) (a k : Nat) (h : a + k ≤ 40) : (seg l a k).length = k := by
  unfold seg
  rw [List.length_take, List.length_drop, hl]
  omega
theorem bytes_num (x : List UInt8) (k : Nat) (h : x.length = k) : bytes (num x) k = x := by
  apply num_inj
  · rw [CodecMath.bytes_length, h]
  · rw [CodecMath.num_bytes]
    rw [← h]; exact CodecMath.num_lt x
theorem bytes_field {l : List UInt8} (hl : l.length = 40) (a k : Nat) (h : a + k ≤ 40) : bytes (field l a k) k = seg l a k := bytes_num _ k (seg_len hl a k h)
theorem take36 (l : List UInt8) : l.take 36 = seg l 0 2 ++ (seg l 2 1 ++ (seg l 3 1 ++ (seg l 4 4 ++ (seg l 8 6 ++ (seg l 14 1 ++ (seg l 15 1 ++ seg l 16 20)))))) := by
  have e : l.take 36 = seg l 0 36 := rfl
  rw [e, seg_split l 0 2 34, seg_split l 2 1 33, seg_split l 3 1 32, seg_split l 4 4 28, seg_split l 8 6 22, seg_split l 14 1 21, seg_split l 15 1 20]
theorem seal_iff {l : List UInt8} (hl : l.length = 40) : sealL (l.take 36) = l ↔ field l 36 4 = crc 0 (l.take 36) := by
  have e : l = l.take 36 ++ seg l 36 4 := by
    have h : seg l 36 4 = l.drop 36 := by
      unfold seg
      rw [List.take_of_length_le]
      rw [List.length_drop, hl]
      omega
    rw [h, List.take_append_drop]
  constructor
  · intro h
    have h2 : l.take 36 ++ bytes (crc 0 (l.take 36)) 4 = l.take 36 ++ seg l 36 4 := by rw [← e]; exact h
    have h3 := List.append_cancel_left h2
    show num (seg l 36 4) = _
    rw [← h3, CodecMath.num_bytes _ 4 (by simpa using CrcMath.crc_lt 0 (l.take 36))]
  · intro h
    unfold sealL
    rw [← h, bytes_field hl 36 4 (by omega), ← e]

theorem read_len {l : List UInt8} (hl : l.length = 40) : (read l).payload.length = min (field l 3 1) 20 := by
  unfold read
  simp only [List.length_take, List.length_drop, hl]
  omega
/-- what the decoder compares -/
def formB (l : List UInt8) : Bool :=
  (l.take 2 == [90, 65]) && (field l 3 1 == min (field l 3 1) 20) && (field l 15 1 == 0) && (seg l (16 + min (field l 3 1) 20) (20 - min (field l 3 1) 20) == List.replicate (20 - min (field l 3 1) 20) 0)
theorem form_of {l : List UInt8} (hl : l.length = 40) (hs : field l 36 4 = crc 0 (l.take 36)) (hc : checkE (read l) = 0) (h : formB l = true) : encL (read l) = l := by
  simp only [formB, Bool.and_eq_true, beq_iff_eq] at h
  obtain ⟨⟨⟨h1, h2⟩, h3⟩, h4⟩ := h
  have hr := read_len hl
  rw [encL, if_pos hc]
  have hb : body (read l) = l.take 36 := by
    rw [take36, ← bytes_field hl 2 1 (by omega), ← bytes_field hl 3 1 (by omega), ← bytes_field hl 4 4 (by omega), ← bytes_field hl 8 6 (by omega), ← bytes_field hl 14 1 (by omega), ← bytes_field hl 15 1 (by omega), h3]
    have e1 : seg l 0 2 = [90, 65] := h1
    have e2 : seg l 16 20 = pad (read l).payload 20 := by
      unfold pad
      rw [hr, ← h4]
      have e3 : (20 : Nat) = min (field l 3 1) 20 + (20 - min (field l 3 1) 20) := by omega
      have e4 := seg_split l 16 (min (field l 3 1) 20) (20 - min (field l 3 1) 20)
      rw [← e3] at e4
      rw [e4]
      rfl
    rw [e1, e2]
    unfold body
    rw [hr, ← h2]
    have e5 : bytes 0 1 = [0] := by decide
    rw [e5]
    simp only [read, List.append_assoc, Int.toNat_natCast]
  rw [hb]
  exact (seal_iff hl).2 hs
theorem form_to {l : List UInt8} (hl : l.length = 40) (hc : checkE (read l) = 0) (h : encL (read l) = l) : formB l = true := by
  have h20 := (check_ok hc).2.2.2.2.2.2.2.2.1
  have hr := read_len hl
  rw [encL, if_pos hc] at h
  have hb : body (read l) = l.take 36 := by
    have h2 := congrArg (fun t => t.take 36) h
    simp only [sealL] at h2
    rw [List.take_left' (body_length h20)] at h2
    exact h2
  unfold body at hb
  rw [take36] at hb
  simp only [List.append_assoc] at hb
  have c1 := List.append_inj hb (by rw [seg_len hl 0 2 (by omega)]; rfl)
  have c2 := List.append_inj c1.2 (by rw [seg_len hl 2 1 (by omega), CodecMath.bytes_length])
  have c3 := List.append_inj c2.2 (by rw [seg_len hl 3 1 (by omega), CodecMath.bytes_length])
  have c4 := List.append_inj c3.2 (by rw [seg_len hl 4 4 (by omega), CodecMath.bytes_length])
  have c5 := List.append_inj c4.2 (by rw [seg_len hl 8 6 (by omega), CodecMath.bytes_length])
  have c6 := List.append_inj c5.2 (by rw [seg_len hl 14 1 (by omega), CodecMath.bytes_length])
  have c7 := List.append_inj c6.2 (by rw [seg_len hl 15 1 (by omega)]; rfl)
  have k1 : l.take 2 = [90, 65] := c1.1.symm
  have k2 : field l 3 1 = min (field l 3 1) 20 := by
    have := congrArg num c3.1
    rw [CodecMath.num_bytes _ 1 (by rw [hr]; omega), hr] at this
    exact this.symm
  have k3 : field l 15 1 = 0 := by
    have := congrArg num c7.1
    exact this.symm
  have k4 : seg l (16 + min (field l 3 1) 20) (20 - min (field l 3 1) 20) = List.replicate (20 - min (field l 3 1) 20) 0 := by
    have h2 := c7.2
    unfold pad at h2
    have e3 : (20 : Nat) = min (field l 3 1) 20 + (20 - min (field l 3 1) 20) := by omega
    have e4 := seg_split l 16 (min (field l 3 1) 20) (20 - min (field l 3 1) 20)
    rw [← e3] at e4
    rw [e4] at h2
    have h3 := (List.append_inj h2 (by rw [hr, seg_len hl _ _ (by omega)])).2
    rw [← h3, hr]
  simp only [formB, Bool.and_eq_true, beq_iff_eq]
  exact ⟨⟨⟨k1, k2⟩, k3⟩, k4⟩
/-- the error of a sector of the right length with a right checksum -/
theorem decE_form {l : List UInt8} (hl : l.length = 40) (hs : field l 36 4 = crc 0 (l.take 36)) : decE l = if checkE (read l) = 0 ∧ formB l = true then 0 else 3 := by
  unfold decE
  rw [if_neg (by simp [hl]), if_neg (by simp [hs])]
  by_cases hc : checkE (read l) = 0
  · by_cases hf : formB l = true
    · rw [if_pos ⟨hc, form_of hl hs hc hf⟩, if_pos ⟨hc, hf⟩]
    · rw [if_neg (fun h => hf (form_to hl hc h.2)), if_neg (fun h => hf h.2)]
  · rw [if_neg (fun h => hc h.1), if_neg (fun h => hc h.1)]
end Go.Proofs.Ythhggiifbldaeaa.RecMath

/- Entries of the map, lists of them, and what layer 8 of the document says of them. Plain mathematics. -/
namespace Go.Proofs.Ythhggiifbldaeaa.EntMath
structure Ent where
  block : Int
  kind : Int
  version : Int
  move : Int
  zone : Int
  offset : Int
deriving DecidableEq
def zeroE : Ent := ⟨0, 0, 0, 0, 0, 0⟩
/-- may an entry be in a shard -/
def okE (e : Ent) : Bool :=
  (decide (e.kind = 1) || decide (e.kind = 2)) && decide (1 ≤ e.version) && decide (e.version ≤ 1099511627776) && decide (0 ≤ e.move) && decide (e.move ≤ 255) && decide (0 ≤ e.block) && decide (0 ≤ e.zone) && decide (0 ≤ e.offset)
/-- is the entry at a place as it must be, beside the one ahead of it -/
def okAt (L : List Ent) : Nat → Bool
  | 0 => match L[0]? with | none => true | some e => okE e
  | i + 1 => match L[i]?, L[i + 1]? with | some d, some e => okE e && decide (d.block < e.block) | _, _ => true
/-- is it a shard -/
def validB (L : List Ent) : Bool := (List.range L.length).all (okAt L)
/-- the first place whose entry has at least this block -/
def place (L : List Ent) (b : Int) : Nat := L.findIdx fun e => decide (b ≤ e.block)
/-- the entry of a block -/
def lookE (L : List Ent) (b : Int) : Option Ent := L.find? fun e => decide (e.block = b)
/-- an entry put in its place -/
def ins : List Ent → Ent → List Ent
  | [], e => [e]
  | x :: L, e => if x.block < e.block then x :: ins L e else if x.block = e.block then e :: L else e :: x :: L
def findE (L : List Ent) (b : Int) : Option Ent := if validB L = true then lookE L b else none
/-- what Install gives -/
def newer (L : List Ent) (e : Ent) : Bool := validB L && okE e && match lookE L e.block with | none => true | some x => decide (x.version < e.version)
def installL (L : List Ent) (e : Ent) : List Ent := if validB L = true then (if newer L e = true then ins L e else L) else []
def installE (L : List Ent) (e : Ent) : Ent := if validB L = true ∧ okE e = true then (lookE L e.block).getD zeroE else zeroE
/-- what Relocate gives -/
def moves (L : List Ent) (b v fz fo tz to m : Int) : Bool := match findE L b with
  | none => false
  | some x => decide (x.version = v) && decide (x.zone = fz) && decide (x.offset = fo) && decide (0 ≤ tz) && decide (0 ≤ to) && decide (0 ≤ m) && decide (m ≤ 255)
def moved (x : Ent) (tz to m : Int) : Ent := ⟨x.block, x.kind, x.version, m, tz, to⟩
def relocL (L : List Ent) (b v fz fo tz to m : Int) : List Ent :=
  if validB L = true then (if moves L b v fz fo tz to m = true then (match lookE L b with | none => L | some x => ins L (moved x tz to m)) else L) else []
/-- what Drop gives -/
def gone (cut : Int) (e : Ent) : Bool := decide (e.kind = 2) && decide (e.version < cut)
def stayL (L : List Ent) (cut : Int) : List Ent := if validB L = true then L.filter (fun e => !gone cut e) else []
def goneL (L : List Ent) (cut : Int) : List Ent := if validB L = true then L.filter (gone cut) else []

/-! a shard -/
def Asc (L : List Ent) : Prop := L.Pairwise fun x y => x.block < y.block
theorem okAt_iff {L : List Ent} {i : Nat} {e : Ent} (h : L[i]? = some e) : okAt L i = true ↔ okE e = true ∧ ∀ d, 0 < i → L[i - 1]? = some d → d.block < e.block := by
  cases i with
  | zero =>
    simp only [okAt, h]
    exact ⟨fun h => ⟨h, fun _ h => absurd h (by omega)⟩, fun h => h.1⟩
  | succ i =>
    simp only [okAt, h, Nat.add_sub_cancel]
    cases hd : L[i]? with
    | none =>
      have := (List.getElem?_eq_some_iff.1 h).1
      rw [List.getElem?_eq_none_iff] at hd
      omega
    | some d =>
      simp only [Bool.and_eq_true, decide_eq_true_eq]
      exact ⟨fun h => ⟨h.1, fun d' _ h' => by obtain rfl := Option.some.inj h'; exact h.2⟩, fun h => ⟨h.1, h.2 d (by omega) rfl⟩⟩
theorem valid_at {L : List Ent} (h : validB L = true) {i : Nat} {e : Ent} (he : L[i]? = some e) : okAt L i = true := by
  have hi := (List.getElem?_eq_some_iff.1 he).1
  exact List.all_eq_true.1 h i (List.mem_range.2 hi)
theorem valid_iff {L : List Ent} : validB L = true ↔ (∀ e ∈ L, okE e = true) ∧ Asc L := by
  constructor
  · intro h
    refine ⟨fun e he => ?_, ?_⟩
    · obtain ⟨i, hi⟩ := List.mem_iff_getElem?.1 he
      exact ((okAt_iff hi).1 (valid_at h hi)).1
    · rw [Asc, List.pairwise_iff_getElem]
      have step : ∀ k i (hi : i < L.length) (hj : i + k + 1 < L.length), L[i].block < L[i + k + 1].block := by
        intro k
        induction k with
        | zero =>
          intro i hi hj
          have h2 := (okAt_iff (List.getElem?_eq_getElem hj)).1 (valid_at h (List.getElem?_eq_getElem hj))
          exact h2.2 L[i] (by omega) (by simp only [Nat.add_zero, Nat.add_sub_cancel]; exact List.getElem?_eq_getElem hi)
        | succ k ih =>
          intro i hi hj
          have h1 := ih i hi (by omega)
          have h2 := (okAt_iff (List.getElem?_eq_getElem hj)).1 (valid_at h (List.getElem?_eq_getElem hj))
          have h3 := h2.2 (L[i + k + 1]'(by omega)) (by omega) (by
            rw [show i + (k + 1) + 1 - 1 = i + k + 1 by omega]
            exact List.getElem?_eq_getElem _)
          exact Int.lt_trans h1 h3
      intro i j hi hj hij
      have := step (j - i - 1) i hi (by omega)
      simp only [show i + (j - i - 1) + 1 = j by omega] at this
      exact this
  · rintro ⟨h1, h2⟩
    rw [Asc, List.pairwise_iff_getElem] at h2
    refine List.all_eq_true.2 fun i hi => ?_
    have hi := List.mem_range.1 hi
    refine (okAt_iff (List.getElem?_eq_getElem hi)).2 ⟨h1 _ (List.getElem_mem hi), fun d h0 hd => ?_⟩
    obtain ⟨hl, rfl⟩ := List.getElem?_eq_some_iff.1 hd
    exact h2 (i - 1) i hl hi (by omega)
theorem valid_nil : validB [] = true := rfl
/-! looking up -/
theorem look_cons (x : Ent) (L : List Ent) (b : Int) : lookE (x :: L) b = if x.block = b then some x else lookE L b := by
  unfold lookE
  rw [List.find?_cons]
  by_cases h : x.block = b <;> simp [h]
theorem look_block {L : List Ent} {b : Int} {x : Ent} (h : lookE L b = some x) : x.block = b := by
  have := List.find?_some h
  simpa using this
theorem look_mem {L : List Ent} {b : Int} {x : Ent} (h : lookE L b = some x) : x ∈ L := List.mem_of_find?_eq_some h
theorem look_none {L : List Ent} {b : Int} (h : ∀ x ∈ L, x.block ≠ b) : lookE L b = none := by
  unfold lookE
  rw [List.find?_eq_none]
  intro x hx
  simpa using h x hx
theorem look_asc {L : List Ent} (h : Asc L) {x : Ent} (hx : x ∈ L) : lookE L x.block = some x := by
  induction L with
  | nil => cases hx
  | cons y L ih =>
    rw [look_cons]
    rw [Asc, List.pairwise_cons] at h
    rcases List.mem_cons.1 hx with rfl | hx
    · rw [if_pos rfl]
    · have := h.1 x hx
      rw [if_neg (by omega)]
      exact ih h.2 hx
/-- lists that ascend are equal where they say the same of each block -/
theorem asc_ext {L M : List Ent} (hL : Asc L) (hM : Asc M) (h : ∀ b, lookE L b = lookE M b) : L = M := by
  induction L generalizing M with
  | nil =>
    cases M with
    | nil => rfl
    | cons m M =>
      have := h m.block
      rw [look_cons, if_pos rfl] at this
      cases this
  | cons l L ih =>
    cases M with
    | nil =>
      have := h l.block
      rw [look_cons, if_pos rfl] at this
      cases this
    | cons m M =>
      have hl := hL
      have hm := hM
      rw [Asc, List.pairwise_cons] at hl hm
      have h1 := h l.block
      rw [look_cons, if_pos rfl] at h1
      have h2 := h m.block
      rw [look_cons m M, if_pos rfl] at h2
      have h3 : l = m := by
        rcases List.mem_cons.1 (look_mem h1.symm) with h4 | h4
        · exact h4
        · rcases List.mem_cons.1 (look_mem h2) with h5 | h5
          · exact h5.symm
          · have := hm.1 l h4
            have := hl.1 m h5
            omega
      subst h3
      congr 1
      refine ih hl.2 hm.2 fun b => ?_
      have h4 := h b
      rw [look_cons, look_cons] at h4
      by_cases hb : l.block = b
      · subst hb
        rw [look_none (fun x hx => by have := hl.1 x hx; omega), look_none (fun x hx => by have := hm.1 x hx; omega)]
      · rwa [if_neg hb, if_neg hb] at h4
/-! the place -/
theorem place_cons (x : Ent) (L : List Ent) (b : Int) : place (x :: L) b = if b ≤ x.block then 0 else place L b + 1 := by
  unfold place
  rw [List.findIdx_cons]
  by_cases h : b ≤ x.block <;> simp [h]
theorem place_le (L : List Ent) (b : Int) : place L b ≤ L.length := List.findIdx_le_length
theorem place_before {L : List Ent} {b : Int} {i : Nat} {x : Ent} (h : L[i]? = some x) (hi : i < place L b) : x.block < b := by
  obtain ⟨hl, rfl⟩ := List.getElem?_eq_some_iff.1 h
  have := List.not_of_lt_findIdx hi
  simpa using this
theorem place_at {L : List Ent} {b : Int} {x : Ent} (h : L[place L b]? = some x) : b ≤ x.block := by
  obtain ⟨hl, rfl⟩ := List.getElem?_eq_some_iff.1 h
  have := @List.findIdx_getElem Ent (fun e => decide (b ≤ e.block)) L hl
  simp only [decide_eq_true_eq] at this
  exact this
theorem place_is {L : List Ent} {b : Int} {k : Nat} (h1 : ∀ i x, i < k → L[i]? = some x → x.block < b) (h2 : ∀ x, L[k]? = some x → b ≤ x.block) (hk : k ≤ L.length) : place L b = k := by
  rcases Nat.lt_trichotomy (place L b) k with h | h | h
  · have hl : place L b < L.length := by omega
    have h3 := h1 _ _ h (List.getElem?_eq_getElem hl)
    have h4 := place_at (List.getElem?_eq_getElem hl)
    omega
  · exact h
  · have hl : k < L.length := by have := place_le L b; omega
    have h3 := h2 _ (List.getElem?_eq_getElem hl)
    have h4 := place_before (List.getElem?_eq_getElem hl) h
    omega
theorem look_place {L : List Ent} (h : Asc L) (b : Int) : lookE L b = (match L[place L b]? with | none => none | some x => if x.block = b then some x else none) := by
  induction L with
  | nil => rfl
  | cons y L ih =>
    rw [look_cons, place_cons]
    rw [Asc, List.pairwise_cons] at h
    by_cases h1 : b ≤ y.block
    · rw [if_pos h1]
      simp only [List.getElem?_cons_zero]
      by_cases h2 : y.block = b
      · rw [if_pos h2, if_pos h2]
      · rw [if_neg h2, if_neg h2]
        exact look_none fun x hx => by have := h.1 x hx; omega
    · rw [if_neg h1, if_neg (by omega)]
      simp only [List.getElem?_cons_succ]
      exact ih h.2
/-! putting in -/
theorem ins_place {L : List Ent} (e : Ent) (h : lookE L e.block = none) (hA : Asc L) : L.take (place L e.block) ++ e :: L.drop (place L e.block) = ins L e := by
  induction L with
  | nil => rfl
  | cons x L ih =>
    rw [look_cons] at h
    rw [Asc, List.pairwise_cons] at hA
    rw [place_cons, ins]
    by_cases h1 : e.block ≤ x.block
    · have h2 : x.block ≠ e.block := fun h2 => by rw [if_pos h2] at h; cases h
      rw [if_pos h1, if_neg (by omega), if_neg h2]
      rfl
    · rw [if_neg (show ¬ x.block = e.block by omega)] at h
      rw [if_neg h1, if_pos (by omega)]
      simp only [List.take_succ_cons, List.drop_succ_cons, List.cons_append]
      rw [ih h hA.2]
theorem ins_over {L : List Ent} (e x : Ent) (h : lookE L e.block = some x) (hA : Asc L) : L.take (place L e.block) ++ e :: L.drop (place L e.block + 1) = ins L e := by
  induction L with
  | nil => cases h
  | cons y L ih =>
    rw [look_cons] at h
    rw [Asc, List.pairwise_cons] at hA
    rw [place_cons, ins]
    by_cases h1 : e.block ≤ y.block
    · have h2 : y.block = e.block := by
        by_cases h2 : y.block = e.block
        · exact h2
        · rw [if_neg h2] at h
          have h3 := hA.1 x (look_mem h)
          have h4 := look_block h
          omega
      rw [if_pos h1, if_neg (by omega), if_pos h2]
      rfl
    · rw [if_neg (show ¬ y.block = e.block by omega)] at h
      rw [if_neg h1, if_pos (by omega)]
      simp only [List.take_succ_cons, List.drop_succ_cons, List.cons_append]
      rw [ih h hA.2]
theorem ins_set {L : List Ent} (e x : Ent) (h : lookE L e.block = some x) (hA : Asc L) : L.set (place L e.block) e = ins L e := by
  rw [← ins_over e x h hA]
  have hlp := look_place hA e.block
  have hlt : place L e.block < L.length := by
    rcases Nat.lt_or_ge (place L e.block) L.length with hl | hl
    · exact hl
    · rw [List.getElem?_eq_none hl, h] at hlp
      cases hlp
  exact List.set_eq_take_append_cons_drop.trans (if_pos hlt)
theorem look_ins (L : List Ent) (e : Ent) (b : Int) : lookE (ins L e) b = if e.block = b then some e else lookE L b := by
  induction L with
  | nil => rw [ins, look_cons]
  | cons x L ih =>
    rw [ins]
    by_cases h1 : x.block < e.block
    · rw [if_pos h1, look_cons, ih, look_cons]
      by_cases h2 : e.block = b
      · rw [if_neg (by omega), if_pos h2, if_pos h2]
      · rw [if_neg h2, if_neg h2]
    · rw [if_neg h1]
      by_cases h2 : x.block = e.block
      · rw [if_pos h2, look_cons, look_cons]
        by_cases h3 : e.block = b
        · rw [if_pos h3, if_pos h3]
        · rw [if_neg h3, if_neg h3, if_neg (by omega)]
      · rw [if_neg h2, look_cons]
theorem mem_ins {L : List Ent} {e x : Ent} (h : x ∈ ins L e) : x = e ∨ x ∈ L := by
  induction L with
  | nil => rw [ins] at h; exact .inl (List.mem_singleton.1 h)
  | cons y L ih =>
    rw [ins] at h
    split at h
    · rcases List.mem_cons.1 h with h | h
      · exact .inr (List.mem_cons.2 (.inl h))
      · exact (ih h).imp id (fun h => List.mem_cons_of_mem _ h)
    · split at h
      · rcases List.mem_cons.1 h with h | h
        · exact .inl h
        · exact .inr (List.mem_cons_of_mem _ h)
      · rcases List.mem_cons.1 h with h | h
        · exact .inl h
        · exact .inr h
theorem asc_ins {L : List Ent} (e : Ent) (h : Asc L) : Asc (ins L e) := by
  induction L with
  | nil => exact List.pairwise_singleton _ _
  | cons y L ih =>
    have h0 := h
    rw [Asc, List.pairwise_cons] at h
    rw [ins]
    by_cases h1 : y.block < e.block
    · rw [if_pos h1, Asc, List.pairwise_cons]
      refine ⟨fun x hx => ?_, ih h.2⟩
      rcases mem_ins hx with rfl | hx
      · exact h1
      · exact h.1 x hx
    · rw [if_neg h1]
      by_cases h2 : y.block = e.block
      · rw [if_pos h2, Asc, List.pairwise_cons]
        exact ⟨fun x hx => by have := h.1 x hx; omega, h.2⟩
      · rw [if_neg h2, Asc, List.pairwise_cons]
        refine ⟨fun x hx => ?_, h0⟩
        rcases List.mem_cons.1 hx with rfl | hx
        · omega
        · have := h.1 x hx; omega
theorem valid_ins {L : List Ent} {e : Ent} (h : validB L = true) (he : okE e = true) : validB (ins L e) = true := by
  obtain ⟨h1, h2⟩ := valid_iff.1 h
  refine valid_iff.2 ⟨fun x hx => ?_, asc_ins e h2⟩
  rcases mem_ins hx with rfl | hx
  · exact he
  · exact h1 x hx
/-! dropping -/
theorem asc_filter {L : List Ent} (p : Ent → Bool) (h : Asc L) : Asc (L.filter p) := h.sublist List.filter_sublist
theorem valid_filter {L : List Ent} (p : Ent → Bool) (h : validB L = true) : validB (L.filter p) = true := by
  obtain ⟨h1, h2⟩ := valid_iff.1 h
  exact valid_iff.2 ⟨fun x hx => h1 x (List.mem_filter.1 hx).1, asc_filter p h2⟩
theorem look_filter {L : List Ent} (p : Ent → Bool) (h : Asc L) (b : Int) : lookE (L.filter p) b = (lookE L b).filter p := by
  induction L with
  | nil => rfl
  | cons x L ih =>
    rw [Asc, List.pairwise_cons] at h
    rw [look_cons, List.filter_cons]
    by_cases hp : p x = true
    · rw [if_pos hp, look_cons]
      by_cases h1 : x.block = b
      · rw [if_pos h1, if_pos h1]; simp only [Option.filter, hp, if_true]
      · rw [if_neg h1, if_neg h1]; exact ih h.2
    · rw [if_neg hp]
      by_cases h1 : x.block = b
      · rw [if_pos h1, ih h.2, look_none (fun y hy => by have := h.1 y hy; omega)]
        simp only [Option.filter, hp]
        rfl
      · rw [if_neg h1]; exact ih h.2
end Go.Proofs.Ythhggiifbldaeaa.EntMath

/- Configurations and layouts as numbers: what layer 7 of the document says of them. Plain mathematics. -/
namespace Go.Proofs.Ythhggiifbldaeaa.LayMath
/-- are the six numbers in their ranges -/
def inR (z s b q d h : Int) : Bool :=
  decide (3 ≤ s) && decide (s ≤ 64) && decide (1 ≤ z) && decide (z ≤ 32) && decide (1 ≤ b) && decide (b ≤ 128) &&
    decide (1 ≤ q) && decide (q ≤ 4) && decide (1 ≤ d) && decide (d ≤ 8) && decide (1 ≤ h) && decide (h ≤ 8)
/-- the zones of a slot -/
def slotN (s b : Int) : Int := (b + 2 + s - 1) / s
/-- the data zones -/
def dataN (z s b : Int) : Int := z - 2 * slotN s b
/-- the capacity -/
def capN (z s b q : Int) : Int := (dataN z s b - 3) * (s - 1) - q - 1
/-- is there enough for data -/
def fits (z s b q : Int) : Bool := !(decide (dataN z s b < 6) || decide (capN z s b q < 1))
/-- the error of a configuration -/
def errN (z s b q d h : Int) : Int := if inR z s b q d h = true then (if fits z s b q = true then 0 else 11) else 1
theorem errN_out {z s b q d h : Int} (hr : inR z s b q d h = false) : errN z s b q d h = 1 := by simp [errN, hr]
theorem errN_tight {z s b q d h : Int} (hr : inR z s b q d h = true) (hf : fits z s b q = false) : errN z s b q d h = 11 := by simp [errN, hr, hf]
theorem errN_fit {z s b q d h : Int} (hr : inR z s b q d h = true) (hf : fits z s b q = true) : errN z s b q d h = 0 := by simp [errN, hr, hf]
theorem errN_zero {z s b q d h : Int} (he : errN z s b q d h = 0) : inR z s b q d h = true ∧ fits z s b q = true := by
  unfold errN at he
  split at he
  · split at he
    · exact ⟨by assumption, by assumption⟩
    · cases he
  · cases he
theorem inR_iff {z s b q d h : Int} : inR z s b q d h = true ↔ 3 ≤ s ∧ s ≤ 64 ∧ 1 ≤ z ∧ z ≤ 32 ∧ 1 ≤ b ∧ b ≤ 128 ∧ 1 ≤ q ∧ q ≤ 4 ∧ 1 ≤ d ∧ d ≤ 8 ∧ 1 ≤ h ∧ h ≤ 8 := by
  simp [inR, Bool.and_eq_true, and_assoc]
theorem inR_not {z s b q d h : Int} (hn : ¬ (3 ≤ s ∧ s ≤ 64 ∧ 1 ≤ z ∧ z ≤ 32 ∧ 1 ≤ b ∧ b ≤ 128 ∧ 1 ≤ q ∧ q ≤ 4 ∧ 1 ≤ d ∧ d ≤ 8 ∧ 1 ≤ h ∧ h ≤ 8)) : inR z s b q d h = false := by
  cases hE : inR z s b q d h
  · rfl
  · exact absurd (inR_iff.1 hE) hn
theorem slot_bounds {s b : Int} (hs : 3 ≤ s) (h2 : s ≤ 64) (hb : 1 ≤ b) (hb2 : b ≤ 128) : 1 ≤ slotN s b ∧ slotN s b ≤ 64 := by
  unfold slotN
  constructor
  · exact (Int.le_ediv_iff_mul_le (by omega)).2 (by omega)
  · have h1 : (b + 2 + s - 1) / s < 65 := (Int.ediv_lt_iff_lt_mul (by omega)).2 (by omega)
    omega
theorem cap_bounds {z s b : Int} (hs : 3 ≤ s) (h2 : s ≤ 64) (hb : 1 ≤ b) (hb2 : b ≤ 128) (hz : 1 ≤ z) (hz2 : z ≤ 32) :
    (-130 ≤ dataN z s b - 3 ∧ dataN z s b - 3 ≤ 29) ∧ (-8190 ≤ (dataN z s b - 3) * (s - 1) ∧ (dataN z s b - 3) * (s - 1) ≤ 1827) := by
  obtain ⟨l1, l2⟩ := slot_bounds hs h2 hb hb2
  unfold dataN
  generalize slotN s b = k at l1 l2 ⊢
  refine ⟨by omega, ?_⟩
  have h1 : (z - 2 * k - 3) * (s - 1) ≤ 29 * (s - 1) := Int.mul_le_mul_of_nonneg_right (by omega) (by omega)
  have h3 : -130 * (s - 1) ≤ (z - 2 * k - 3) * (s - 1) := Int.mul_le_mul_of_nonneg_right (by omega) (by omega)
  omega
theorem slot_room {s b : Int} (hs : 3 ≤ s) : b + 2 ≤ slotN s b * s := by
  unfold slotN
  have h1 := Int.ediv_mul_add_emod (b + 2 + s - 1) s
  have h2 := Int.emod_lt_of_pos (b + 2 + s - 1) (b := s) (by omega)
  have h3 := Int.emod_nonneg (b + 2 + s - 1) (b := s) (by omega)
  omega
/-- the numbers P, P + 1, .. -/
def upto (P : Int) (n : Nat) : List Int := (List.range n).map fun (i : Nat) => P + (i : Int)
/-- the zones of a slot, as a list -/
def slotsL (z s b q d h k : Int) : List Int := if errN z s b q d h = 0 ∧ (k = 0 ∨ k = 1) then upto (k * slotN s b) (slotN s b).toNat else []
theorem slotsL_no {z s b q d h k : Int} (hk : ¬ errN z s b q d h = 0 ∨ ¬ (k = 0 ∨ k = 1)) : slotsL z s b q d h k = [] := by
  unfold slotsL; rw [if_neg (fun h => hk.elim (fun e => e h.1) (fun e => e h.2))]
theorem slotsL_yes {z s b q d h k : Int} {n : Nat} (he : errN z s b q d h = 0) (hk : k = 0 ∨ k = 1) (hn : slotN s b = n) : slotsL z s b q d h k = upto (k * (n : Int)) n := by
  unfold slotsL; rw [if_pos ⟨he, hk⟩, hn, Int.toNat_natCast]
end Go.Proofs.Ythhggiifbldaeaa.LayMath
