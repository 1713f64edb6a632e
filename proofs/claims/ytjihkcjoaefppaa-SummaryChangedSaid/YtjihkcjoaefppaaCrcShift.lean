/- The walks of the program's one shift and of the document's own checksum, for any bytes: they are the plain arithmetic's. The bytes are at most as many as any memory holds. -/
import Derived.Test.YtjihkcjoaefppaaCrcMath
import Derived.Test.YtjihkcjoaefppaaRows
import Derived.WalkKit
import Derived.WalkSpells
import Derived.WalkLawsBesides
import Derived.Laws.BitsAllLaws
import Derived.Lib.Hide
namespace Go.Proofs.Ytjihkcjoaefppaa
open Go.RowKit

theorem and1 (x : Nat) (hx : x < 4294967296) : bits .and .u32 (x : Int) 1 = ((x % 2 : Nat) : Int) := by
  have := u32_and_nat x 1 hx (by decide)
  simpa [Nat.and_one_is_mod] using this
theorem sh_one (x : Nat) (hx : x < 4294967296) (h : x % 2 = 1) : bits .xor .u32 ((x : Int) / 2) 3988292384 = (CrcMath.sh x : Nat) := by
  have := u32_xor_nat (x / 2) 3988292384 (by omega) (by decide)
  simp only [CrcMath.sh, CrcMath.sr1, h, if_true, CrcMath.poly]
  simpa using this
theorem sh_nil (x : Nat) (h : x % 2 = 0) : (x : Int) / 2 = (CrcMath.sh x : Nat) := by
  simp only [CrcMath.sh, CrcMath.sr1, h]; simp
theorem ret_u32 {a b : Int} (h : a = b) : Ending.returned (.int .u32 a) = .returned (.int .u32 b) := by rw [h]
theorem val_u32 {a b : Int} (h : a = b) : Value.int .u32 a = .int .u32 b := by rw [h]
theorem not_u32 (x : Nat) (h : x < 4294967296) : bits .xor .u32 IntKind.u32.max (x : Int) = (CrcMath.not32 x : Nat) := by
  have := u32_xor_nat 4294967295 x (by decide) h
  have e : 4294967295 ^^^ x = 4294967295 - x := by
    apply Nat.eq_of_testBit_eq
    intro i
    have h1 := Nat.testBit_two_pow_sub_succ (n := 32) h i
    have h2 := Nat.testBit_two_pow_sub_one 32 i
    have e2 : 2 ^ 32 - (x + 1) = 4294967295 - x := by omega
    rw [e2] at h1
    have e3 : (4294967295 : Nat) = 2 ^ 32 - 1 := by decide
    rw [Nat.testBit_xor, h1, e3, h2]
    by_cases hi : i < 32
    · simp [hi]
    · have : x.testBit i = false := Nat.testBit_lt_two_pow (Nat.lt_of_lt_of_le h (by
        have : 2 ^ 32 ≤ 2 ^ i := Nat.pow_le_pow_right (by decide) (by omega)
        simpa using this))
      simp [hi, this]
  rw [e] at this
  exact this

set_option maxHeartbeats 400000 in
theorem shift_any (x : Nat) (hx : x < 4294967296) (w : World) :
    Calls Try.prog 41 #[.int .u32 (x : Int)] w fun e w' => e = .returned (.int .u32 (CrcMath.sh x : Nat)) ∧ w = w' := by
  have ha := and1 x hx
  rcases Nat.mod_two_eq_zero_or_one x with h | h
  · have ht : (bits .and .u32 (x : Int) 1 == 1) = false := by rw [ha, h]; rfl
    have hs := Lib.hid (sh_nil x h)
    clear ha h
    go_enter Try.func41, Try.ntmps41
    go_wp2
    go_ret
    exact ⟨ret_u32 hs.out, rfl⟩
  · have ht : (bits .and .u32 (x : Int) 1 == 1) = true := by rw [ha, h]; rfl
    have hs := Lib.hid (sh_one x hx h)
    clear ha h
    go_enter Try.func41, Try.ntmps41
    go_wp2
    go_ret
    exact ⟨ret_u32 hs.out, rfl⟩

theorem take_snoc (s : ByteArray) (k : Nat) (h : k < s.size) : s.data.toList.take (k + 1) = s.data.toList.take k ++ [s[k]] := by
  rw [List.take_succ_eq_append_getElem (by simpa using h)]; rfl
theorem feed_snoc (x : Nat) (s : ByteArray) (k : Nat) (h : k < s.size) : CrcMath.feed x (s.data.toList.take (k + 1)) = CrcMath.shn 8 (CrcMath.feed x (s.data.toList.take k) ^^^ s[k].toNat) := by
  rw [take_snoc s k h, CrcMath.feed_append]; rfl

set_option maxHeartbeats 400000 in
theorem ref_any (x : Nat) (s : ByteArray) (hx : x < 4294967296) (hs : s.size ≤ maxLen) (w : World) :
    Calls Try.prog 32 #[.int .u32 (x : Int), .string s] w fun e w' => e = .returned (.int .u32 (CrcMath.crc x s.data.toList : Nat)) ∧ w = w' := by
  unfold maxLen at hs
  have hnot := Lib.hid (not_u32 x hx)
  go_enter Try.func32, Try.ntmps32
  go_wp2
  go_loop [5, 6] (fun v i => ∃ k : Nat, k ≤ s.size ∧ i = .int .i64 k ∧ v = .int .u32 (CrcMath.feed (CrcMath.not32 x) (s.data.toList.take k) : Nat)) (fun _ i => s.size - (intOf i).toNat)
  case atStart => exact ⟨0, Nat.zero_le _, rfl, val_u32 hnot.out⟩
  case round =>
    obtain ⟨k, hk, rfl, rfl⟩ := hrel
    have hlt32 := CrcMath.feed_lt (s.data.toList.take k) _ (CrcMath.not32_lt x)
    by_cases hlt : k < s.size
    · have hf := Lib.hid (feed_snoc (CrcMath.not32 x) s k hlt)
      generalize CrcMath.feed (CrcMath.not32 x) (s.data.toList.take k) = X at hf hlt32 ⊢
      have hc : s[k].toNat < 256 := s[k].toNat_lt
      have hX := CrcMath.shn_lt
      have hx0 := Lib.hid (u32_xor_nat X s[k].toNat hlt32 (by omega))
      have hXc : X ^^^ s[k].toNat < 4294967296 := Nat.xor_lt_two_pow (n := 32) hlt32 (by omega)
      clear hlt32 hX
      go_wp2
      go_loop [5, 7] (fun v i => ∃ m : Nat, m ≤ 8 ∧ i = .int .i64 m ∧ v = .int .u32 (CrcMath.shn m (X ^^^ s[k].toNat) : Nat)) (fun _ i => 8 - (intOf i).toNat)
      case atStart => exact ⟨0, Nat.zero_le _, rfl, val_u32 hx0.out⟩
      case round =>
        obtain ⟨m, hm, rfl, rfl⟩ := hrel
        have hy := CrcMath.shn_lt m _ hXc
        have hss := Lib.hid (CrcMath.shn_succ m (X ^^^ s[k].toNat))
        by_cases h8 : m < 8
        · generalize CrcMath.shn m (X ^^^ s[k].toNat) = Y at hy hss ⊢
          have ha := and1 Y hy
          rcases Nat.mod_two_eq_zero_or_one Y with h | h
          · have ht : (bits .and .u32 (Y : Int) 1 == 1) = false := by rw [ha, h]; rfl
            have hs' := Lib.hid (sh_nil Y h)
            clear ha h
            go_wp2
            go_round
            case rel => exact ⟨m + 1, by omega, by go_num, val_u32 (by rw [hss.out]; exact hs'.out)⟩
            case measure => simp [intOf]; omega
          · have ht : (bits .and .u32 (Y : Int) 1 == 1) = true := by rw [ha, h]; rfl
            have hs' := Lib.hid (sh_one Y hy h)
            clear ha h
            go_wp2
            go_round
            case rel => exact ⟨m + 1, by omega, by go_num, val_u32 (by rw [hss.out]; exact hs'.out)⟩
            case measure => simp [intOf]; omega
        · obtain rfl : m = 8 := by omega
          go_wp2
          go_round
          case rel => exact ⟨k + 1, by omega, by go_num, val_u32 (by rw [hf.out])⟩
          case measure => simp [intOf]; omega
    · have hn2 := Lib.hid (not_u32 _ hlt32)
      clear hlt32
      go_wp2
      go_ret
      exact ⟨ret_u32 (hn2.out.trans (by rw [List.take_of_length_le (by simp; omega)]; rfl)), rfl⟩

end Go.Proofs.Ytjihkcjoaefppaa
