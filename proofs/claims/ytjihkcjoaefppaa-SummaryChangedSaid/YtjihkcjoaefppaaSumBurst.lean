/- Summaries notice a record with another block: the checksum of all bodies is another one. No condition. -/
import Derived.Test.YtjihkcjoaefppaaSumMath
namespace Go.Proofs.Ytjihkcjoaefppaa.SumMath
open RecMath CrcMath
open CodecMath (bytes)

theorem num_same : ∀ l : List UInt8, CrcMath.num l = CodecMath.num l
  | [] => rfl
  | c :: l => by rw [CrcMath.num, CodecMath.num, num_same l]
theorem pow256 (n : Nat) : 256 ^ n = 2 ^ (8 * n) := by rw [Nat.pow_mul]
theorem num_app (a b : List UInt8) : CrcMath.num (a ++ b) = CrcMath.num a ^^^ (2 ^ (8 * a.length) * CrcMath.num b) := by
  have h := CodecMath.num_append a b
  have hl := CodecMath.num_lt a
  rw [← num_same, ← num_same, ← num_same, pow256] at h
  rw [← num_same, pow256] at hl
  rw [h, low_xor_n _ _ _ hl]
theorem xor_mid (a x y z : Nat) : (a ^^^ (x ^^^ z)) ^^^ (a ^^^ (y ^^^ z)) = x ^^^ y := by
  apply Nat.eq_of_testBit_eq
  intro i
  simp only [Nat.testBit_xor]
  cases a.testBit i <;> cases x.testBit i <;> cases y.testBit i <;> cases z.testBit i <;> rfl
theorem xor_ne {x y : Nat} (h : x ≠ y) : x ^^^ y ≠ 0 := fun e => h (by
  have : (x ^^^ y) ^^^ y = x := by rw [Nat.xor_assoc, Nat.xor_self, Nat.xor_zero]
  rw [e, Nat.zero_xor] at this
  exact this.symm)
/-- bytes that differ in four bytes in a row have another checksum -/
theorem window (A B B' C : List UInt8) (hB : B.length = 4) (hB' : B'.length = 4) (hne : CrcMath.num B ≠ CrcMath.num B') : crc 0 (A ++ (B ++ C)) ≠ crc 0 (A ++ (B' ++ C)) := by
  have l1 := CodecMath.num_lt B
  have l2 := CodecMath.num_lt B'
  rw [← num_same, hB] at l1
  rw [← num_same, hB'] at l2
  have hlt : CrcMath.num B ^^^ CrcMath.num B' < 4294967296 := by
    have := Nat.xor_lt_two_pow (n := 32) (x := CrcMath.num B) (y := CrcMath.num B') (by simpa using l1) (by simpa using l2)
    simpa using this
  refine burst _ _ (by simp [hB, hB']) (8 * A.length) (CrcMath.num B ^^^ CrcMath.num B') hlt (xor_ne hne) (by simp; omega) ?_
  rw [num_app, num_app, num_app, num_app, hB, hB', mul_xor, mul_xor, xor_mid, ← mul_xor]
/-- a record with another block -/
def other (r : Rec) (b : Int) : Rec := ⟨r.kind, b, r.version, r.move, r.payload⟩
theorem enc_take {r : Rec} (h : checkE r = 0) : (encL r).take 36 = body r := by
  rw [encL, if_pos h, sealL, List.take_append_of_le_length (by rw [body_length (check_ok h).2.2.2.2.2.2.2.2.1]; exact Nat.le_refl _), List.take_of_length_le (by rw [body_length (check_ok h).2.2.2.2.2.2.2.2.1]; exact Nat.le_refl _)]
theorem allL_mid (P : List (List UInt8)) (s : List UInt8) (Q : List (List UInt8)) : allL (P ++ s :: Q) = allL P ++ (s.take 36 ++ allL Q) := by simp [allL]
theorem body_parts4 (r : Rec) : body r = ([90, 65] ++ bytes r.kind.toNat 1 ++ bytes r.payload.length 1) ++ (bytes r.block.toNat 4 ++ (bytes r.version.toNat 6 ++ bytes r.move.toNat 1 ++ [0] ++ pad r.payload 20)) := by
  simp only [body, List.append_assoc]
/-- a list in which the record of one sector has another block has another checksum -/
theorem crc_other (P Q : List (List UInt8)) (r : Rec) (b : Int) (h : checkE r = 0) (h' : checkE (other r b) = 0) (hne : r.block ≠ b) :
    crc 0 (allL (P ++ encL r :: Q)) ≠ crc 0 (allL (P ++ encL (other r b) :: Q)) := by
  obtain ⟨-, -, h1, h2, -⟩ := check_ok h
  obtain ⟨-, -, h3, h4, -⟩ := check_ok h'
  have hb' : (other r b).block = b := rfl
  rw [hb'] at h3 h4
  rw [allL_mid, allL_mid, enc_take h, enc_take h', body_parts4, body_parts4]
  have e : ∀ X Y Z W : List UInt8, X ++ ((Y ++ (Z ++ W)) ++ allL Q) = (X ++ Y) ++ (Z ++ (W ++ allL Q)) := fun X Y Z W => by simp only [List.append_assoc]
  rw [e, e]
  refine window _ _ _ _ (CodecMath.bytes_length _ _) (CodecMath.bytes_length _ _) ?_
  rw [num_same, num_same, CodecMath.num_bytes _ _ (by omega), CodecMath.num_bytes _ _ (by rw [hb']; omega), hb']
  omega
/-- .. and another summary -/
theorem make_other (P Q : List (List UInt8)) (r : Rec) (b : Int) (h : checkE r = 0) (h' : checkE (other r b) = 0) (hne : r.block ≠ b)
    (h0 : (P ++ encL r :: Q).length ≤ 64) (he : errL (P ++ encL r :: Q) = 0) (he' : errL (P ++ encL (other r b) :: Q) = 0) :
    (makeR (P ++ encL r :: Q)).payload ≠ (makeR (P ++ encL (other r b) :: Q)).payload := by
  have hd := (dec_enc h).2
  have hd' := (dec_enc h').2
  rw [(make_ok (by simp; omega) h0 he).2, (make_ok (by simp; omega) (by simpa using h0) he').2]
  have hle : leastL (P ++ encL r :: Q) = leastL (P ++ encL (other r b) :: Q) := by
    unfold leastL
    rw [List.foldl_append, List.foldl_append, List.foldl_cons, List.foldl_cons, hd, hd']
    rfl
  intro heq
  simp only [hle] at heq
  have h2 := List.append_cancel_left heq
  have k1 := crc_lt 0 (allL (P ++ encL r :: Q))
  have k2 := crc_lt 0 (allL (P ++ encL (other r b) :: Q))
  have hc := crc_other P Q r b h h' hne
  generalize crc 0 (allL (P ++ encL r :: Q)) = c1 at *
  generalize crc 0 (allL (P ++ encL (other r b) :: Q)) = c2 at *
  have o1 : CodecMath.okPut (c1 : Nat) 4 = true := by
    simp only [CodecMath.okPut, Bool.and_eq_true, decide_eq_true_eq]
    have e : (((256 : Nat) ^ (4 : Int).toNat : Nat) : Int) = 4294967296 := rfl
    rw [e]; omega
  have o2 : CodecMath.okPut (c2 : Nat) 4 = true := by
    simp only [CodecMath.okPut, Bool.and_eq_true, decide_eq_true_eq]
    have e : (((256 : Nat) ^ (4 : Int).toNat : Nat) : Int) = 4294967296 := rfl
    rw [e]; omega
  rw [CodecMath.putL_ok o1, CodecMath.putL_ok o2] at h2
  have h3 := congrArg CodecMath.num h2
  rw [Int.toNat_natCast, Int.toNat_natCast, CodecMath.num_bytes _ _ (by simpa using k1), CodecMath.num_bytes _ _ (by simpa using k2)] at h3
  exact hc h3
end Go.Proofs.Ytjihkcjoaefppaa.SumMath
