/- Sectors that are encodings: the plain arithmetic of the decoder. A sector with a right checksum is an encoding exactly if its mark, its length, its spare byte and its padding are as the encoder writes them. -/
import Derived.Test.YtjihkcjoaefppaaRecMath
namespace Go.Proofs.Ytjihkcjoaefppaa.RecMath
open CodecMath (bytes num)
open CrcMath (crc)

/-- the k bytes from a on -/
def seg (l : List UInt8) (a k : Nat) : List UInt8 := (l.drop a).take k
theorem seg_split (l : List UInt8) (a k m : Nat) : seg l a (k + m) = seg l a k ++ seg l (a + k) m := by
  unfold seg
  rw [List.take_add, List.drop_drop]
theorem seg_len {l : List UInt8} (hl : l.length = 40) (a k : Nat) (h : a + k ≤ 40) : (seg l a k).length = k := by
  unfold seg
  rw [List.length_take, List.length_drop, hl]
  omega
theorem bytes_num (x : List UInt8) (k : Nat) (h : x.length = k) : bytes (num x) k = x := by
  apply num_inj
  · rw [CodecMath.bytes_length, h]
  · rw [CodecMath.num_bytes]
    rw [← h]; exact CodecMath.num_lt x
theorem bytes_field {l : List UInt8} (hl : l.length = 40) (a k : Nat) (h : a + k ≤ 40) : bytes (field l a k) k = seg l a k := bytes_num _ k (seg_len hl a k h)
theorem take36 (l : List UInt8) : l.take 36 = seg l 0 2 ++ (seg l 2 1 ++ (seg l 3 1 ++ (seg l 4 4 ++ (seg l 8 6 ++ (seg l 14 1 ++ (seg l 15 1 ++ seg l 16 20)))))) := by
  have e : l.take 36 = seg l 0 36 := rfl
  rw [e, seg_split l 0 2 34, seg_split l 2 1 33, seg_split l 3 1 32, seg_split l 4 4 28, seg_split l 8 6 22, seg_split l 14 1 21, seg_split l 15 1 20]
theorem seal_iff {l : List UInt8} (hl : l.length = 40) : sealL (l.take 36) = l ↔ field l 36 4 = crc 0 (l.take 36) := by
  have e : l = l.take 36 ++ seg l 36 4 := by
    have h : seg l 36 4 = l.drop 36 := by
      unfold seg
      rw [List.take_of_length_le]
      rw [List.length_drop, hl]
      omega
    rw [h, List.take_append_drop]
  constructor
  · intro h
    have h2 : l.take 36 ++ bytes (crc 0 (l.take 36)) 4 = l.take 36 ++ seg l 36 4 := by rw [← e]; exact h
    have h3 := List.append_cancel_left h2
    show num (seg l 36 4) = _
    rw [← h3, CodecMath.num_bytes _ 4 (by simpa using CrcMath.crc_lt 0 (l.take 36))]
  · intro h
    unfold sealL
    rw [← h, bytes_field hl 36 4 (by omega), ← e]

theorem read_len {l : List UInt8} (hl : l.length = 40) : (read l).payload.length = min (field l 3 1) 20 := by
  unfold read
  simp only [List.length_take, List.length_drop, hl]
  omega
/-- what the decoder compares -/
def formB (l : List UInt8) : Bool :=
  (l.take 2 == [90, 65]) && (field l 3 1 == min (field l 3 1) 20) && (field l 15 1 == 0) && (seg l (16 + min (field l 3 1) 20) (20 - min (field l 3 1) 20) == List.replicate (20 - min (field l 3 1) 20) 0)
theorem form_of {l : List UInt8} (hl : l.length = 40) (hs : field l 36 4 = crc 0 (l.take 36)) (hc : checkE (read l) = 0) (h : formB l = true) : encL (read l) = l := by
  simp only [formB, Bool.and_eq_true, beq_iff_eq] at h
  obtain ⟨⟨⟨h1, h2⟩, h3⟩, h4⟩ := h
  have hr := read_len hl
  rw [encL, if_pos hc]
  have hb : body (read l) = l.take 36 := by
    rw [take36, ← bytes_field hl 2 1 (by omega), ← bytes_field hl 3 1 (by omega), ← bytes_field hl 4 4 (by omega), ← bytes_field hl 8 6 (by omega), ← bytes_field hl 14 1 (by omega), ← bytes_field hl 15 1 (by omega), h3]
    have e1 : seg l 0 2 = [90, 65] := h1
    have e2 : seg l 16 20 = pad (read l).payload 20 := by
      unfold pad
      rw [hr, ← h4]
      have e3 : (20 : Nat) = min (field l 3 1) 20 + (20 - min (field l 3 1) 20) := by omega
      have e4 := seg_split l 16 (min (field l 3 1) 20) (20 - min (field l 3 1) 20)
      rw [← e3] at e4
      rw [e4]
      rfl
    rw [e1, e2]
    unfold body
    rw [hr, ← h2]
    have e5 : bytes 0 1 = [0] := by decide
    rw [e5]
    simp only [read, List.append_assoc, Int.toNat_natCast]
  rw [hb]
  exact (seal_iff hl).2 hs
theorem form_to {l : List UInt8} (hl : l.length = 40) (hc : checkE (read l) = 0) (h : encL (read l) = l) : formB l = true := by
  have h20 := (check_ok hc).2.2.2.2.2.2.2.2.1
  have hr := read_len hl
  rw [encL, if_pos hc] at h
  have hb : body (read l) = l.take 36 := by
    have h2 := congrArg (fun t => t.take 36) h
    simp only [sealL] at h2
    rw [List.take_left' (body_length h20)] at h2
    exact h2
  unfold body at hb
  rw [take36] at hb
  simp only [List.append_assoc] at hb
  have c1 := List.append_inj hb (by rw [seg_len hl 0 2 (by omega)]; rfl)
  have c2 := List.append_inj c1.2 (by rw [seg_len hl 2 1 (by omega), CodecMath.bytes_length])
  have c3 := List.append_inj c2.2 (by rw [seg_len hl 3 1 (by omega), CodecMath.bytes_length])
  have c4 := List.append_inj c3.2 (by rw [seg_len hl 4 4 (by omega), CodecMath.bytes_length])
  have c5 := List.append_inj c4.2 (by rw [seg_len hl 8 6 (by omega), CodecMath.bytes_length])
  have c6 := List.append_inj c5.2 (by rw [seg_len hl 14 1 (by omega), CodecMath.bytes_length])
  have c7 := List.append_inj c6.2 (by rw [seg_len hl 15 1 (by omega)]; rfl)
  have k1 : l.take 2 = [90, 65] := c1.1.symm
  have k2 : field l 3 1 = min (field l 3 1) 20 := by
    have := congrArg num c3.1
    rw [CodecMath.num_bytes _ 1 (by rw [hr]; omega), hr] at this
    exact this.symm
  have k3 : field l 15 1 = 0 := by
    have := congrArg num c7.1
    exact this.symm
  have k4 : seg l (16 + min (field l 3 1) 20) (20 - min (field l 3 1) 20) = List.replicate (20 - min (field l 3 1) 20) 0 := by
    have h2 := c7.2
    unfold pad at h2
    have e3 : (20 : Nat) = min (field l 3 1) 20 + (20 - min (field l 3 1) 20) := by omega
    have e4 := seg_split l 16 (min (field l 3 1) 20) (20 - min (field l 3 1) 20)
    rw [← e3] at e4
    rw [e4] at h2
    have h3 := (List.append_inj h2 (by rw [hr, seg_len hl _ _ (by omega)])).2
    rw [← h3, hr]
  simp only [formB, Bool.and_eq_true, beq_iff_eq]
  exact ⟨⟨⟨k1, k2⟩, k3⟩, k4⟩
/-- the error of a sector of the right length with a right checksum -/
theorem decE_form {l : List UInt8} (hl : l.length = 40) (hs : field l 36 4 = crc 0 (l.take 36)) : decE l = if checkE (read l) = 0 ∧ formB l = true then 0 else 3 := by
  unfold decE
  rw [if_neg (by simp [hl]), if_neg (by simp [hs])]
  by_cases hc : checkE (read l) = 0
  · by_cases hf : formB l = true
    · rw [if_pos ⟨hc, form_of hl hs hc hf⟩, if_pos ⟨hc, hf⟩]
    · rw [if_neg (fun h => hf (form_to hl hc h.2)), if_neg (fun h => hf h.2)]
  · rw [if_neg (fun h => hc h.1), if_neg (fun h => hc h.1)]
end Go.Proofs.Ytjihkcjoaefppaa.RecMath
