/- Records and their sectors: the plain arithmetic. A record that can be encoded is read back from its sector; a sector with one bit changed has another checksum. -/
import Derived.Test.YtjihkcjoaefppaaCodecMath
import Derived.Test.YtjihkcjoaefppaaCrcBurstMath
namespace Go.Proofs.Ytjihkcjoaefppaa.RecMath
open CodecMath (bytes num)
open CrcMath (crc)

/-- bytes 0 behind l, n bytes in all -/
def pad (l : List UInt8) (n : Nat) : List UInt8 := l ++ List.replicate (n - l.length) 0
/-- a record -/
structure Rec where
  kind : Int
  block : Int
  version : Int
  move : Int
  payload : List UInt8
/-- the record of zeros -/
def Rec.zero : Rec := ⟨0, 0, 0, 0, []⟩
/-- the error of a record -/
def checkE (r : Rec) : Int :=
  if r.kind < 1 ∨ 6 < r.kind then 3
  else if r.block < 0 ∨ 4294967295 < r.block ∨ r.version < 0 ∨ 1099511627776 < r.version ∨ r.move < 0 ∨ 255 < r.move then 1
  else if 20 < r.payload.length ∨ (r.kind = 1 ∧ r.payload.length ≠ 16) ∨ (r.kind = 2 ∧ r.payload.length ≠ 0) then 2
  else 0
/-- the bytes ahead of the checksum -/
def body (r : Rec) : List UInt8 :=
  [90, 65] ++ bytes r.kind.toNat 1 ++ bytes r.payload.length 1 ++ bytes r.block.toNat 4 ++ bytes r.version.toNat 6 ++ bytes r.move.toNat 1 ++ [0] ++ pad r.payload 20
def sealL (l : List UInt8) : List UInt8 := l ++ bytes (crc 0 l) 4
def encL (r : Rec) : List UInt8 := if checkE r = 0 then sealL (body r) else []
/-- the number of the k bytes from a on -/
def field (l : List UInt8) (a k : Nat) : Nat := num ((l.drop a).take k)
/-- what a sector's fields say -/
def read (l : List UInt8) : Rec := ⟨field l 2 1, field l 4 4, field l 8 6, field l 14 1, (l.drop 16).take (min (field l 3 1) 20)⟩
/-- the error of a sector -/
def decE (l : List UInt8) : Int :=
  if l.length ≠ 40 then 2
  else if field l 36 4 ≠ crc 0 (l.take 36) then 4
  else if checkE (read l) = 0 ∧ encL (read l) = l then 0
  else 3
def dec (l : List UInt8) : Rec := if decE l = 0 then read l else Rec.zero

theorem pad_length (l : List UInt8) (n : Nat) (h : l.length ≤ n) : (pad l n).length = n := by
  simp [pad]; omega
theorem check_ok {r : Rec} (h : checkE r = 0) : 1 ≤ r.kind ∧ r.kind ≤ 6 ∧ 0 ≤ r.block ∧ r.block ≤ 4294967295 ∧ 0 ≤ r.version ∧ r.version ≤ 1099511627776 ∧ 0 ≤ r.move ∧ r.move ≤ 255 ∧ r.payload.length ≤ 20 ∧ (r.kind = 1 → r.payload.length = 16) ∧ (r.kind = 2 → r.payload.length = 0) := by
  unfold checkE at h
  split at h
  · omega
  · split at h
    · omega
    · split at h <;> omega
theorem body_length {r : Rec} (h : r.payload.length ≤ 20) : (body r).length = 36 := by
  simp only [body, List.length_append, CodecMath.bytes_length, pad_length _ _ h]
  rfl
theorem seal_length (l : List UInt8) : (sealL l).length = l.length + 4 := by simp [sealL, CodecMath.bytes_length]
theorem enc_length {r : Rec} (h : checkE r = 0) : (encL r).length = 40 := by
  rw [encL, if_pos h, seal_length, body_length (check_ok h).2.2.2.2.2.2.2.2.1]
theorem enc_no {r : Rec} (h : checkE r ≠ 0) : encL r = [] := if_neg h

theorem field_at (a b c : List UInt8) (n k : Nat) (h : a.length = n) (hb : b.length = k) : field (a ++ b ++ c) n k = num b := by
  unfold field
  rw [List.append_assoc, List.drop_left' h, List.take_left' hb]
theorem field_byte (a c : List UInt8) (x n : Nat) (h : a.length = n) (hx : x < 256) : field (a ++ bytes x 1 ++ c) n 1 = x := by
  rw [field_at a _ c n 1 h (CodecMath.bytes_length x 1), CodecMath.num_bytes x 1 (by simpa using hx)]

theorem read_seal {r : Rec} (h : checkE r = 0) : read (sealL (body r)) = r := by
  obtain ⟨h1, h2, h3, h4, h5, h6, h7, h8, h9, -, -⟩ := check_ok h
  have e1 : field (sealL (body r)) 2 1 = r.kind.toNat := by
    have := field_byte [90, 65] (bytes r.payload.length 1 ++ bytes r.block.toNat 4 ++ bytes r.version.toNat 6 ++ bytes r.move.toNat 1 ++ [0] ++ pad r.payload 20 ++ bytes (crc 0 (body r)) 4) r.kind.toNat 2 rfl (by omega)
    rw [← this]; simp only [sealL, body, List.append_assoc]
  have e2 : field (sealL (body r)) 3 1 = r.payload.length := by
    have := field_byte ([90, 65] ++ bytes r.kind.toNat 1) (bytes r.block.toNat 4 ++ bytes r.version.toNat 6 ++ bytes r.move.toNat 1 ++ [0] ++ pad r.payload 20 ++ bytes (crc 0 (body r)) 4) r.payload.length 3 (by simp [CodecMath.bytes_length]) (by omega)
    rw [← this]; simp only [sealL, body, List.append_assoc]
  have e3 : field (sealL (body r)) 4 4 = r.block.toNat := by
    have := field_at ([90, 65] ++ bytes r.kind.toNat 1 ++ bytes r.payload.length 1) (bytes r.block.toNat 4) (bytes r.version.toNat 6 ++ bytes r.move.toNat 1 ++ [0] ++ pad r.payload 20 ++ bytes (crc 0 (body r)) 4) 4 4 (by simp [CodecMath.bytes_length]) (CodecMath.bytes_length _ _)
    rw [CodecMath.num_bytes _ 4 (by simp; omega)] at this
    rw [← this]; simp only [sealL, body, List.append_assoc]
  have e4 : field (sealL (body r)) 8 6 = r.version.toNat := by
    have := field_at ([90, 65] ++ bytes r.kind.toNat 1 ++ bytes r.payload.length 1 ++ bytes r.block.toNat 4) (bytes r.version.toNat 6) (bytes r.move.toNat 1 ++ [0] ++ pad r.payload 20 ++ bytes (crc 0 (body r)) 4) 8 6 (by simp [CodecMath.bytes_length]) (CodecMath.bytes_length _ _)
    rw [CodecMath.num_bytes _ 6 (by simp; omega)] at this
    rw [← this]; simp only [sealL, body, List.append_assoc]
  have e5 : field (sealL (body r)) 14 1 = r.move.toNat := by
    have := field_byte ([90, 65] ++ bytes r.kind.toNat 1 ++ bytes r.payload.length 1 ++ bytes r.block.toNat 4 ++ bytes r.version.toNat 6) ([0] ++ pad r.payload 20 ++ bytes (crc 0 (body r)) 4) r.move.toNat 14 (by simp [CodecMath.bytes_length]) (by omega)
    rw [← this]; simp only [sealL, body, List.append_assoc]
  have e6 : ((sealL (body r)).drop 16).take r.payload.length = r.payload := by
    have e : sealL (body r) = ([90, 65] ++ bytes r.kind.toNat 1 ++ bytes r.payload.length 1 ++ bytes r.block.toNat 4 ++ bytes r.version.toNat 6 ++ bytes r.move.toNat 1 ++ [0]) ++ (r.payload ++ (List.replicate (20 - r.payload.length) 0 ++ bytes (crc 0 (body r)) 4)) := by
      simp only [sealL, body, pad, List.append_assoc]
    rw [e, List.drop_left' (by simp [CodecMath.bytes_length]), List.take_left' rfl]
  unfold read
  rw [e1, e2, e3, e4, e5, Nat.min_eq_left h9, e6]
  cases r
  simp only [Rec.mk.injEq, and_true]
  simp only at h1 h3 h5 h7
  omega
theorem sum_seal {l : List UInt8} (h : l.length = 36) : field (sealL l) 36 4 = crc 0 ((sealL l).take 36) := by
  have e : (sealL l).take 36 = l := by rw [sealL, List.take_left' h]
  rw [e]
  have := field_at l (bytes (crc 0 l) 4) [] 36 4 h (CodecMath.bytes_length _ _)
  rw [List.append_nil] at this
  rw [sealL, this, CodecMath.num_bytes _ 4 (by simpa using CrcMath.crc_lt 0 l)]
theorem dec_enc {r : Rec} (h : checkE r = 0) : decE (encL r) = 0 ∧ dec (encL r) = r := by
  have hb := body_length (check_ok h).2.2.2.2.2.2.2.2.1
  have e : encL r = sealL (body r) := if_pos h
  have hr := read_seal h
  have h0 : decE (encL r) = 0 := by
    unfold decE
    rw [if_neg (by rw [enc_length h]; simp), e, if_neg (by rw [sum_seal hb]; simp), hr, if_pos ⟨h, e⟩]
  exact ⟨h0, by rw [dec, if_pos h0, e, hr]⟩
/-- a sector that is decoded is the encoding of what was read -/
theorem enc_dec {l : List UInt8} (h : decE l = 0) : checkE (dec l) = 0 ∧ encL (dec l) = l ∧ dec l = read l := by
  have e : dec l = read l := if_pos h
  rw [e]
  unfold decE at h
  split at h
  · omega
  · split at h
    · omega
    · split at h
      · rename_i hh; exact ⟨hh.1, hh.2, rfl⟩
      · omega

/-! a bit that is changed -/
theorem sum_noticed (l : List UInt8) (j : Nat) (hj : j < l.length) (m : UInt8) (hm : m ≠ 0) : crc 0 (l.set j (l[j] ^^^ m)) ≠ crc 0 l := by
  have hx := CrcMath.num_set l j hj m
  have hm0 : m.toNat ≠ 0 := fun h => hm (UInt8.toNat_inj.1 (by simpa using h))
  refine CrcMath.burst _ l (by simp) (8 * j) m.toNat (by have := m.toNat_lt; omega) hm0 (by simp; omega) ?_
  rw [hx, Nat.xor_assoc, Nat.xor_comm (2 ^ (8 * j) * m.toNat), ← Nat.xor_assoc, Nat.xor_self, Nat.zero_xor]
theorem num_inj (a b : List UInt8) (h : a.length = b.length) (e : num a = num b) : a = b := by
  induction a generalizing b with
  | nil => cases b with
    | nil => rfl
    | cons => simp at h
  | cons x a ih => cases b with
    | nil => simp at h
    | cons y b =>
      have hx := x.toNat_lt
      have hy := y.toNat_lt
      simp only [num] at e
      rw [ih b (by simpa using h) (by omega), UInt8.toNat_inj.1 (by omega : x.toNat = y.toNat)]
theorem xor_ne (x m : UInt8) (hm : m ≠ 0) : x ^^^ m ≠ x := by
  intro h
  apply hm
  have := congrArg (x ^^^ ·) h
  simpa [← UInt8.xor_assoc] using this
/-- a sector with a right checksum in which one byte was changed has a wrong one -/
theorem flip_sum {l : List UInt8} (hl : l.length = 40) (hs : field l 36 4 = crc 0 (l.take 36)) (j : Nat) (hj : j < l.length) (m : UInt8) (hm : m ≠ 0) : decE (l.set j (l[j] ^^^ m)) = 4 := by
  unfold decE
  rw [if_neg (by simp [hl]), if_pos]
  by_cases h : j < 36
  · have e1 : field (l.set j (l[j] ^^^ m)) 36 4 = field l 36 4 := by
      unfold field; rw [List.drop_set_of_lt h]
    have e2 : (l.set j (l[j] ^^^ m)).take 36 = (l.take 36).set j ((l.take 36)[j]'(by simp; omega) ^^^ m) := by
      rw [List.take_set, List.getElem_take]
    rw [e1, e2, hs]
    exact (sum_noticed (l.take 36) j (by simp; omega) m hm).symm
  · have e2 : (l.set j (l[j] ^^^ m)).take 36 = l.take 36 := by rw [List.take_set_of_le (by omega)]
    rw [e2, ← hs]
    unfold field
    intro e
    have h1 := num_inj _ _ (by simp) e
    have e3 : ((l.set j (l[j] ^^^ m)).drop 36).take 4 = ((l.drop 36).take 4).set (j - 36) (l[j] ^^^ m) := by
      rw [List.drop_set, if_neg (by omega), List.take_set]
    rw [e3] at h1
    have h2 := congrArg (fun t => t[j - 36]?) h1
    rw [List.getElem?_set_self (by simp; omega), List.getElem?_take, if_pos (by omega), List.getElem?_drop, show 36 + (j - 36) = j by omega, List.getElem?_eq_getElem hj] at h2
    exact xor_ne _ m hm (Option.some.inj h2)

/-- the copy of a record -/
def copyOk (r : Rec) : Bool := decide (checkE r = 0) && (decide (r.kind = 1) || decide (r.kind = 2))
def copy (r : Rec) : Rec := if copyOk r = true then { r with move := min (r.move + 1) 255 } else Rec.zero
end Go.Proofs.Ytjihkcjoaefppaa.RecMath
