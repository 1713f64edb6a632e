/- A sector of which one bit is changed is refused. -/
import Derived.Test.YtjihkcjoaefppaaMakeFlip
import Derived.Test.YtjihkcjoaefppaaRecMath
namespace Go.Proofs.Ytjihkcjoaefppaa

theorem bit_ne (k : Nat) : UInt8.ofNat (2 ^ (k % 8)) ≠ 0 := by
  intro h
  have h2 := bit_byte k
  rw [h] at h2
  have h3 : 0 < 2 ^ (k % 8) := Nat.pow_pos (by decide)
  simp at h2
  omega
theorem flip_bad (r : RecMath.Rec) (h : RecMath.checkE r = 0) (at' bit : Int) : RecMath.decE (flipL (RecMath.encL r) at' bit) = 4 := by
  have hl := RecMath.enc_length h
  obtain ⟨j, hj1, hj2⟩ : ∃ j : Nat, at' % ((RecMath.encL r).length : Int) = (j : Int) ∧ j < (RecMath.encL r).length := by
    rw [hl]
    exact ⟨(at' % 40).toNat, by omega, by omega⟩
  obtain ⟨k, hk1, hk2⟩ : ∃ k : Nat, bit % 8 = (k : Int) ∧ k < 8 := ⟨(bit % 8).toNat, by omega, by omega⟩
  rw [flipL_eq _ at' bit j k hj1 hk1 hj2]
  refine RecMath.flip_sum hl ?_ j hj2 _ (bit_ne k)
  have hb := RecMath.body_length (RecMath.check_ok h).2.2.2.2.2.2.2.2.1
  rw [show RecMath.encL r = RecMath.sealL (RecMath.body r) from if_pos h]
  exact RecMath.sum_seal hb
end Go.Proofs.Ytjihkcjoaefppaa
