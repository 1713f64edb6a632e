/- The walks of Get: the program's and the document's own, for any bytes, any place and any size. -/
import Derived.Test.YtjihkcjoaefppaaCodecPut
import Derived.Laws.BitsAllLaws
import Derived.Laws.BitsLemmas
import Derived.WalkSpells
namespace Go.Proofs.Ytjihkcjoaefppaa
open Go.RowKit

theorem bv_small (a : Nat) (h : a < 9223372036854775808) : (BitVec.ofInt 64 (a : Int)).toNat = a := by
  rw [BitVec.ofInt_natCast, BitVec.toNat_ofNat, Nat.mod_eq_of_lt (by omega)]
theorem or_small (a b : Nat) (ha : a < 9223372036854775808) (hb : b < 9223372036854775808) : bits .or .i64 (a : Int) (b : Int) = ((a ||| b : Nat) : Int) := by
  have h : a ||| b < 2 ^ 63 := Nat.or_lt_two_pow (by omega) (by omega)
  show IntKind.i64.wrap ((BitVec.ofInt 64 (a : Int) ||| BitVec.ofInt 64 (b : Int)).toNat : Int) = _
  rw [BitVec.toNat_or, bv_small a ha, bv_small b hb, IntKind.wrap_i64]
  omega
theorem wrap_small (a : Nat) (h : a < 9223372036854775808) : wrap64 (a : Int) = (a : Int) := by unfold wrap64; omega
theorem get_val (X c i : Nat) (hX : X < 256 ^ i) (hi : i < 7) (hc : c < 256) :
    bits .or .i64 (X : Int) (wrap64 (wrap64 (c : Int) * 2 ^ (8 * i))) = ((X + 256 ^ i * c : Nat) : Int) := by
  have h1 := CodecMath.pow_le (i + 1) (by omega)
  have h2 : c * 256 ^ i < 256 ^ (i + 1) := by
    rw [Nat.pow_succ, Nat.mul_comm]
    exact Nat.mul_lt_mul_of_pos_left hc (Nat.pow_pos (by decide))
  have h3 : 256 ^ i ≤ 256 ^ (i + 1) := Nat.pow_le_pow_right (by decide) (by omega)
  have h4 := CodecMath.or_high X c (8 * i) (by rw [CodecMath.pow_two]; exact hX)
  rw [CodecMath.pow_two] at h4
  have e : (2 : Int) ^ (8 * i) = ((256 ^ i : Nat) : Int) := by rw [← CodecMath.pow_two]; simp
  rw [wrap_small c (by omega), e, ← Int.natCast_mul]
  generalize 256 ^ (i + 1) = Q at h1 h2 h3
  rw [wrap_small (c * 256 ^ i) (by omega), or_small X _ (by omega) (by omega), h4, Nat.mul_comm c]
theorem refGet_val (X c : Nat) (hX : X < 281474976710656) (hc : c < 256) :
    bits .or .i64 (wrap64 ((X : Int) * 256)) (wrap64 (c : Int)) = ((c + 256 * X : Nat) : Int) := by
  have h4 := CodecMath.or_high c X 8 (by omega)
  have e : (X : Int) * 256 = ((X * 256 : Nat) : Int) := by omega
  rw [wrap_small c (by omega), e, wrap_small (X * 256) (by omega), or_small (X * 256) c (by omega) (by omega), Nat.or_comm]
  have h5 : c ||| X * 256 = c + X * 256 := h4
  rw [h5, Nat.mul_comm X]
theorem num_take (s : ByteArray) (a i : Nat) (h : a + i < s.size) : CodecMath.num ((s.data.toList.drop a).take (i + 1)) = CodecMath.num ((s.data.toList.drop a).take i) + 256 ^ i * s[a + i].toNat := by
  have hl : s.data.toList.length = s.size := by simp
  rw [List.take_succ_eq_append_getElem (by rw [List.length_drop]; omega), CodecMath.num_append, List.length_take_of_le (by rw [List.length_drop]; omega), List.getElem_drop]
  simp only [CodecMath.num]
  rfl
theorem num_drop (s : ByteArray) (a i k : Nat) (hi : i < k) (h : a + i < s.size) : CodecMath.num ((s.data.toList.drop (a + i)).take (k - i)) = s[a + i].toNat + 256 * CodecMath.num ((s.data.toList.drop (a + (i + 1))).take (k - (i + 1))) := by
  have hl : s.data.toList.length = s.size := by simp
  rw [List.drop_eq_getElem_cons (by omega), show k - i = (k - (i + 1)) + 1 by omega, List.take_succ_cons]
  rfl
theorem num_take_lt (l : List UInt8) (a i : Nat) : CodecMath.num ((l.drop a).take i) < 256 ^ i :=
  Nat.lt_of_lt_of_le (CodecMath.num_lt _) (Nat.pow_le_pow_right (by decide) (List.length_take_le _ _))
theorem val_i64 {a b : Int} (h : a = b) : Value.int .i64 a = .int .i64 b := by rw [h]

theorem get_ok (s : ByteArray) (at' k : Nat) (w : World) (hs : s.size ≤ maxLen) (h1 : 1 ≤ k) (h7 : k ≤ 7) (hn : at' + k ≤ s.size) :
    Calls Try.prog 53 #[.string s, .int .i64 at', .int .i64 k] w fun e w' => e = .returned (.tuple #[.int .i64 (CodecMath.num ((s.data.toList.drop at').take k) : Nat), .int .i64 0]) ∧ w = w' := by
  unfold maxLen at hs
  go_enter Try.func53, Try.ntmps53
  go_wp2_with (go_at_call 42; refine (isSize_yes _ h1 h7 _).mono ?_; rintro e w' ⟨rfl, rfl⟩)
  go_loop [8, 9, 24] (fun v _ b => ∃ i : Nat, b = .int .i64 i ∧ i ≤ k ∧ v = .int .i64 (CodecMath.num ((s.data.toList.drop at').take i) : Nat)) (fun _ _ b => k - (intOf b).toNat)
  case atStart => exact ⟨0, rfl, by omega, rfl⟩
  case round =>
    obtain ⟨i, rfl, hi, rfl⟩ := hrel
    by_cases hlt : i < k
    · have hnx := Lib.hid (num_take s at' i (by omega))
      have hv := Lib.hid (get_val _ s[at' + i].toNat i (num_take_lt s.data.toList at' i) (by omega) s[at' + i].toNat_lt)
      generalize CodecMath.num ((s.data.toList.drop at').take i) = X at hnx hv
      go_wp2
      go_round
      case rel => exact ⟨i + 1, by go_num, by omega, val_i64 (by rw [hnx.out]; exact hv.out)⟩
      case measure => simp [intOf]; omega
    · obtain rfl : i = k := by omega
      go_wp2
      go_ret2
      exact ⟨rfl, rfl⟩
theorem refGet_ok (s : ByteArray) (at' k : Nat) (w : World) (hs : s.size ≤ maxLen) (h1 : 1 ≤ k) (h7 : k ≤ 7) (hn : at' + k ≤ s.size) :
    Calls Try.prog 43 #[.string s, .int .i64 at', .int .i64 k] w fun e w' => e = .returned (.tuple #[.int .i64 (CodecMath.num ((s.data.toList.drop at').take k) : Nat), .int .i64 0]) ∧ w = w' := by
  unfold maxLen at hs
  have hd : decide (s.size < at') = false := by simp; omega
  go_enter Try.func43, Try.ntmps43
  go_wp2
  go_loop [8, 9] (fun v b => ∃ i : Nat, b = .int .i64 ((i : Int) - 1) ∧ i ≤ k ∧ v = .int .i64 (CodecMath.num ((s.data.toList.drop (at' + i)).take (k - i)) : Nat)) (fun _ b => (intOf b + 1).toNat)
  case atStart => exact ⟨k, rfl, by omega, by simp [CodecMath.num]⟩
  case round =>
    obtain ⟨i, rfl, hi, rfl⟩ := hrel
    by_cases hlt : 0 < i
    · have hnx := Lib.hid (num_drop s at' (i - 1) k (by omega) (by omega))
      have hX : CodecMath.num ((s.data.toList.drop (at' + i)).take (k - i)) < 281474976710656 :=
        Nat.lt_of_lt_of_le (num_take_lt _ _ _) (CodecMath.pow_le6 _ (by omega))
      have hv := Lib.hid (refGet_val _ s[at' + (i - 1)].toNat hX s[at' + (i - 1)].toNat_lt)
      have ei : i - 1 + 1 = i := by omega
      rw [ei] at hnx
      clear ei
      generalize CodecMath.num ((s.data.toList.drop (at' + i)).take (k - i)) = X at hnx hv
      clear hX
      go_wp2
      go_round
      case rel => exact ⟨i - 1, val_i64 (by omega), by omega, val_i64 (by rw [hnx.out]; exact hv.out)⟩
      case measure => simp [intOf]; omega
    · obtain rfl : i = 0 := by omega
      go_wp2
      go_ret2
      exact ⟨rfl, rfl⟩

theorem get_no (s : ByteArray) (at' k : Int) (w : World) (h : CodecMath.okArg at' k = false) :
    Calls Try.prog 53 #[.string s, .int .i64 at', .int .i64 k] w fun e w' => e = .returned (.tuple #[.int .i64 0, .int .i64 1]) ∧ w = w' := by
  have h' : (k < 1 ∨ 7 < k) ∨ (1 ≤ k ∧ k ≤ 7 ∧ at' < 0) := by
    simp only [CodecMath.okArg, Bool.and_eq_false_iff, decide_eq_false_iff_not] at h
    omega
  clear h
  rcases h' with h | ⟨h1, h7, h0⟩
  · go_enter Try.func53, Try.ntmps53
    go_wp2_with (go_at_call 42; refine (isSize_no _ h _).mono ?_; rintro e w' ⟨rfl, rfl⟩)
    go_ret2
    exact ⟨rfl, rfl⟩
  · obtain ⟨k, rfl⟩ := Int.eq_ofNat_of_zero_le (by omega : 0 ≤ k)
    go_enter Try.func53, Try.ntmps53
    go_wp2_with (go_at_call 42; refine (isSize_yes _ (by omega) (by omega) _).mono ?_; rintro e w' ⟨rfl, rfl⟩)
    go_ret2
    exact ⟨rfl, rfl⟩
theorem get_short (s : ByteArray) (at' k : Int) (w : World) (hs : s.size ≤ maxLen) (h1 : 1 ≤ k) (h7 : k ≤ 7) (h0 : 0 ≤ at') (h : (s.size : Int) < at' + k) :
    Calls Try.prog 53 #[.string s, .int .i64 at', .int .i64 k] w fun e w' => e = .returned (.tuple #[.int .i64 0, .int .i64 2]) ∧ w = w' := by
  unfold maxLen at hs
  obtain ⟨k, rfl⟩ := Int.eq_ofNat_of_zero_le (by omega : 0 ≤ k)
  have hd : ¬ at' < 0 := by omega
  have h' : (s.size : Int) - k < at' := by omega
  go_enter Try.func53, Try.ntmps53
  go_wp2_with (go_at_call 42; refine (isSize_yes _ (by omega) (by omega) _).mono ?_; rintro e w' ⟨rfl, rfl⟩)
  go_ret2
  exact ⟨rfl, rfl⟩
theorem refGet_no (s : ByteArray) (at' k : Int) (w : World) (h : CodecMath.okArg at' k = false) :
    Calls Try.prog 43 #[.string s, .int .i64 at', .int .i64 k] w fun e w' => e = .returned (.tuple #[.int .i64 0, .int .i64 1]) ∧ w = w' := by
  have h' : k < 1 ∨ (1 ≤ k ∧ 7 < k) ∨ (1 ≤ k ∧ k ≤ 7 ∧ at' < 0) := by
    simp only [CodecMath.okArg, Bool.and_eq_false_iff, decide_eq_false_iff_not] at h
    omega
  clear h
  rcases h' with h | ⟨h1, h7⟩ | ⟨h1, h7, h0⟩
  · go_enter Try.func43, Try.ntmps43
    go_wp2
    go_ret2
    exact ⟨rfl, rfl⟩
  · have hd : decide (7 < k) = true := by simpa using h7
    go_enter Try.func43, Try.ntmps43
    go_wp2
    go_ret2
    exact ⟨rfl, rfl⟩
  · have hd : decide (at' < 0) = true := by simpa using h0
    go_enter Try.func43, Try.ntmps43
    go_wp2
    go_ret2
    exact ⟨rfl, rfl⟩
theorem refGet_short (s : ByteArray) (at' k : Int) (w : World) (h1 : 1 ≤ k) (h7 : k ≤ 7) (h0 : 0 ≤ at') (h : (s.size : Int) < at' + k) :
    Calls Try.prog 43 #[.string s, .int .i64 at', .int .i64 k] w fun e w' => e = .returned (.tuple #[.int .i64 0, .int .i64 2]) ∧ w = w' := by
  have hd1 : decide (7 < k) = false := by simp; omega
  have hd2 : decide (at' < 0) = false := by simp; omega
  by_cases h3 : (s.size : Int) < at'
  · go_enter Try.func43, Try.ntmps43
    go_wp2
    go_ret2
    exact ⟨rfl, rfl⟩
  · have hd3 : decide ((s.size : Int) - at' < k) = true := by simp; omega
    go_enter Try.func43, Try.ntmps43
    go_wp2
    go_ret2
    exact ⟨rfl, rfl⟩

theorem okArg_true {a k : Int} (h : CodecMath.okArg a k = true) : 1 ≤ k ∧ k ≤ 7 ∧ 0 ≤ a := by
  simp only [CodecMath.okArg, Bool.and_eq_true, decide_eq_true_eq] at h
  omega
theorem getE_no {l : List UInt8} {a k : Int} (h : CodecMath.okArg a k = false) : CodecMath.getE l a k = 1 ∧ CodecMath.getN l a k = 0 := by simp [CodecMath.getE, CodecMath.getN, h]
theorem getE_short {l : List UInt8} {a k : Int} (h : CodecMath.okArg a k = true) (h2 : CodecMath.okAt l.length a k = false) : CodecMath.getE l a k = 2 ∧ CodecMath.getN l a k = 0 := by simp [CodecMath.getE, CodecMath.getN, h, h2]
theorem getE_ok {l : List UInt8} {a k : Int} (h : CodecMath.okArg a k = true) (h2 : CodecMath.okAt l.length a k = true) : CodecMath.getE l a k = 0 ∧ CodecMath.getN l a k = (CodecMath.num ((l.drop a.toNat).take k.toNat) : Int) := by simp [CodecMath.getE, CodecMath.getN, h, h2]
/-- Get, whatever the arguments are -/
theorem get_any (s : ByteArray) (at' k : Int) (w : World) (hs : s.size ≤ maxLen) :
    Calls Try.prog 53 #[.string s, .int .i64 at', .int .i64 k] w fun e w' => e = .returned (.tuple #[.int .i64 (CodecMath.getN s.data.toList at' k), .int .i64 (CodecMath.getE s.data.toList at' k)]) ∧ w = w' := by
  cases h : CodecMath.okArg at' k
  · rw [(getE_no h).1, (getE_no h).2]; exact get_no s at' k w h
  · obtain ⟨h1, h7, h0⟩ := okArg_true h
    cases h2 : CodecMath.okAt s.data.toList.length at' k
    · rw [(getE_short h h2).1, (getE_short h h2).2]
      have hl : s.data.toList.length = s.size := by simp
      rw [hl] at h2
      exact get_short s at' k w hs h1 h7 h0 (by simpa [CodecMath.okAt] using h2)
    · rw [(getE_ok h h2).1, (getE_ok h h2).2]
      have hl : s.data.toList.length = s.size := by simp
      rw [hl] at h2
      obtain ⟨k, rfl⟩ := Int.eq_ofNat_of_zero_le (by omega : 0 ≤ k)
      obtain ⟨a, rfl⟩ := Int.eq_ofNat_of_zero_le h0
      have h3 : (a : Int) + (k : Int) ≤ s.size := by simpa [CodecMath.okAt] using h2
      exact get_ok s a k w hs (by omega) (by omega) (by omega)
theorem refGet_any (s : ByteArray) (at' k : Int) (w : World) (hs : s.size ≤ maxLen) :
    Calls Try.prog 43 #[.string s, .int .i64 at', .int .i64 k] w fun e w' => e = .returned (.tuple #[.int .i64 (CodecMath.getN s.data.toList at' k), .int .i64 (CodecMath.getE s.data.toList at' k)]) ∧ w = w' := by
  cases h : CodecMath.okArg at' k
  · rw [(getE_no h).1, (getE_no h).2]; exact refGet_no s at' k w h
  · obtain ⟨h1, h7, h0⟩ := okArg_true h
    cases h2 : CodecMath.okAt s.data.toList.length at' k
    · rw [(getE_short h h2).1, (getE_short h h2).2]
      have hl : s.data.toList.length = s.size := by simp
      rw [hl] at h2
      exact refGet_short s at' k w h1 h7 h0 (by simpa [CodecMath.okAt] using h2)
    · rw [(getE_ok h h2).1, (getE_ok h h2).2]
      have hl : s.data.toList.length = s.size := by simp
      rw [hl] at h2
      obtain ⟨k, rfl⟩ := Int.eq_ofNat_of_zero_le (by omega : 0 ≤ k)
      obtain ⟨a, rfl⟩ := Int.eq_ofNat_of_zero_le h0
      have h3 : (a : Int) + (k : Int) ≤ s.size := by simpa [CodecMath.okAt] using h2
      exact refGet_ok s a k w hs (by omega) (by omega) (by omega)
end Go.Proofs.Ytjihkcjoaefppaa
