/- The walks of both statements of the codec: all functions for any arguments, and that a number is read back from its bytes at any place among others. -/
import Derived.Test.YtnbcflbmookggaaCodecPad
namespace Go.Proofs.Ytnbcflbmookggaa
open Go.RowKit

theorem put_258 (w : World) : Calls Try.prog 6 #[.int .i64 258, .int .i64 2] w fun e w' => e = .returned (.tuple #[.string { data := #[2, 1] }, .int .i64 0]) ∧ Below w.heap.size w w' := by
  have h := put_any 258 2 w
  rw [show CodecMath.putL 258 2 = [2, 1] by decide, show CodecMath.putE 258 2 = 0 by decide] at h
  exact h
theorem get_258 (w : World) : Calls Try.prog 8 #[.string { data := #[2, 1] }, .int .i64 0, .int .i64 2] w fun e w' => e = .returned (.tuple #[.int .i64 258, .int .i64 0]) ∧ w = w' := by
  have h := get_any { data := #[2, 1] } 0 2 w (by decide)
  rw [show CodecMath.getN (({ data := #[2, 1] } : ByteArray).data.toList) 0 2 = 258 by decide, show CodecMath.getE (({ data := #[2, 1] } : ByteArray).data.toList) 0 2 = 0 by decide] at h
  exact h
theorem codecAwake (w : World) : Calls Try.prog 5 #[] w fun e w' => e = .returned (.bool true) ∧ Below w.heap.size w w' := by
  go_enter Try.func5, Try.ntmps5
  go_wp2_with (first | (go_at_call 6; refine (put_258 _).mono ?_; rintro e w1 ⟨rfl, hb1⟩) | (go_at_call 8; refine (get_258 _).mono ?_; rintro e w2 ⟨rfl, rfl⟩))
  go_ret
  exact ⟨rfl, hb1⟩

set_option maxHeartbeats 400000 in
theorem codecExact_any (n size : Int) (b : ByteArray) (at' width : Int) (hb : b.size ≤ maxLen) (w : World) :
    Calls Try.prog 3 #[.int .i64 n, .int .i64 size, .string b, .int .i64 at', .int .i64 width] w fun e w' => e = .returned (.bool true) ∧ Below w.heap.size w w' := by
  have hm := hb
  unfold maxLen at hm
  by_cases h : 500 < b.size
  · go_enter Try.func3, Try.ntmps3
    go_wp2_with (go_at_call 5; refine (codecAwake _).mono ?_; rintro e w1 ⟨rfl, hb1⟩)
    go_ret
    exact ⟨rfl, hb1⟩
  · obtain ⟨m, hm1, hm2⟩ : ∃ m : Nat, width % 600 = (m : Int) ∧ m < 600 := ⟨(width % 600).toNat, by omega, by omega⟩
    have hmod : ∀ w, Calls Try.prog 10 #[.int .i64 width, .int .i64 600] w fun e w' => e = .returned (.int .i64 (m : Int)) ∧ w = w' := fun w => by
      rw [← hm1]; exact mod_any width 600 (by decide) (by decide) w
    have h1 := put_any n size
    have h2 := refPut_any n size
    have h3 := fun w => get_any b at' size w hb
    have h4 := fun w => refGet_any b at' size w hb
    have h5 := fun w => pad_any b m w (by omega)
    have h6 := fun w => refPad_any b m w (by omega)
    generalize (⟨(CodecMath.putL n size).toArray⟩ : ByteArray) = X at h1 h2
    generalize CodecMath.putE n size = E at h1 h2
    generalize CodecMath.getN b.data.toList at' size = U at h3 h4
    generalize CodecMath.getE b.data.toList at' size = G at h3 h4
    generalize (⟨(padL b.data.toList m).toArray⟩ : ByteArray) = Z at h5 h6
    have H0 := Lib.hid hmod
    have H1 := Lib.hid h1
    have H2 := Lib.hid h2
    have H3 := Lib.hid h3
    have H4 := Lib.hid h4
    have H5 := Lib.hid h5
    have H6 := Lib.hid h6
    clear h1 h2 h3 h4 h5 h6 hmod hm1 hb
    go_enter Try.func3, Try.ntmps3
    go_wp2_with (first
      | (go_at_call 6; ((with_reducible refine (H1.out _).mono ?_); rintro e w1 ⟨rfl, hb1⟩))
      | (go_at_call 7; ((with_reducible refine (H2.out _).mono ?_); rintro e w2 ⟨rfl, hb2⟩))
      | (go_at_call 8; ((with_reducible refine (H3.out _).mono ?_); rintro e w3 ⟨rfl, rfl⟩))
      | (go_at_call 9; ((with_reducible refine (H4.out _).mono ?_); rintro e w4 ⟨rfl, rfl⟩))
      | (go_at_call 10; ((with_reducible refine (H0.out _).mono ?_); rintro e w0 ⟨rfl, rfl⟩))
      | (go_at_call 5; refine (codecAwake _).mono ?_; rintro e w5 ⟨rfl, hb5⟩)
      | (go_at_call 11; ((with_reducible refine (H5.out _).mono ?_); rintro e w6 ⟨rfl, hb6⟩))
      | (go_at_call 12; ((with_reducible refine (H6.out _).mono ?_); rintro e w7 ⟨rfl, hb7⟩)))
    go_ret
    exact ⟨rfl, ((hb1.trans (hb2.mono hb1.size)).trans (hb5.mono (Nat.le_trans hb1.size hb2.size))).trans ((hb6.trans (hb7.mono hb6.size)).mono (Nat.le_trans (Nat.le_trans hb1.size hb2.size) hb5.size))⟩

theorem back_num (b a : ByteArray) (m k : Nat) (hm : m < 256 ^ k) : CodecMath.num (((b ++ (⟨(CodecMath.bytes m k).toArray⟩ : ByteArray) ++ a).data.toList.drop b.size).take k) = m := by
  have e : (b ++ (⟨(CodecMath.bytes m k).toArray⟩ : ByteArray) ++ a).data.toList = b.data.toList ++ (CodecMath.bytes m k ++ a.data.toList) := by simp
  rw [e, List.drop_left' (size_list b), List.take_left' (CodecMath.bytes_length m k), CodecMath.num_bytes m k hm]
theorem ret_true {x : Bool} (h : x = true) : Ending.returned (.bool x) = .returned (.bool true) := by rw [h]
theorem bytes_size (m k : Nat) : (⟨(CodecMath.bytes m k).toArray⟩ : ByteArray).size = k := by
  show (CodecMath.bytes m k).toArray.size = k
  simp [CodecMath.bytes_length]
set_option maxHeartbeats 400000 in
theorem back_any (n size : Int) (b a : ByteArray) (hb : b.size ≤ 140737488351232) (ha : a.size ≤ 140737488351232) (w : World) :
    Calls Try.prog 4 #[.int .i64 n, .int .i64 size, .string b, .string a] w fun e w' => e = .returned (.bool true) ∧ Below w.heap.size w w' := by
  obtain ⟨r, hr1, hr2⟩ : ∃ r : Nat, size % 7 = (r : Int) ∧ r < 7 := ⟨(size % 7).toNat, by omega, by omega⟩
  have hmod : ∀ w, Calls Try.prog 10 #[.int .i64 size, .int .i64 7] w fun e w' => e = .returned (.int .i64 (r : Int)) ∧ w = w' := fun w => by
    rw [← hr1]; exact mod_any size 7 (by decide) (by decide) w
  have H0 := Lib.hid hmod
  clear hmod hr1
  have hP := wrap_pow (1 + r) (by omega)
  have hP1 := CodecMath.pow_le (1 + r) (by omega)
  have hP2 : 0 < 256 ^ (1 + r) := Nat.pow_pos (by decide)
  have hnum := fun m h => back_num b a m (1 + r) h
  have hput := fun m h w => put_ok m (1 + r) w (by omega) (by omega) h
  generalize 256 ^ (1 + r) = P at hP hP1 hP2 hnum hput
  obtain ⟨m, hm1, hm2⟩ : ∃ m : Nat, n % (P : Int) = (m : Int) ∧ m < P := ⟨(n % (P : Int)).toNat, by have := Int.emod_nonneg n (b := (P : Int)) (by omega); omega, by have := Int.emod_lt_of_pos n (b := (P : Int)) (by omega); have := Int.emod_nonneg n (b := (P : Int)) (by omega); omega⟩
  have hmod : ∀ w, Calls Try.prog 10 #[.int .i64 n, .int .i64 (P : Int)] w fun e w' => e = .returned (.int .i64 (m : Int)) ∧ w = w' := fun w => by
    rw [← hm1]; exact mod_any n P (by omega) (by omega) w
  have H1 := Lib.hid hmod
  clear hmod hm1
  have hn1 := hnum m hm2
  have hp1 := hput m hm2
  have hsz := bytes_size m (1 + r)
  rw [show ((1 + r : Nat) : Int) = 1 + (r : Int) by omega] at hp1
  generalize (⟨(CodecMath.bytes m (1 + r)).toArray⟩ : ByteArray) = S at hn1 hp1 hsz
  clear hnum hput hP1 hP2
  by_cases h : 500 < b.size + a.size
  · have hr : (500 : Int) < (b.size : Int) + (a.size : Int) := by omega
    clear hsz hn1 hp1
    go_enter Try.func4, Try.ntmps4
    go_wp2_with (first
      | (go_at_call 10; ((with_reducible refine (H0.out _).mono ?_); rintro e w0 ⟨rfl, rfl⟩))
      | (go_at_call 10; ((with_reducible refine (H1.out _).mono ?_); rintro e w0 ⟨rfl, rfl⟩))
      | (go_at_call 5; refine (codecAwake _).mono ?_; rintro e w5 ⟨rfl, hb5⟩))
    go_ret
    exact ⟨rfl, hb5⟩
  · have hr : ¬ (500 : Int) < (b.size : Int) + (a.size : Int) := by omega
    have hlen : (b ++ S ++ a).size = b.size + S.size + a.size := by simp
    have hget := fun w => get_ok (b ++ S ++ a) b.size (1 + r) w (by rw [hlen]; unfold maxLen; omega) (by omega) (by omega) (by rw [hlen]; omega)
    rw [hn1, show ((1 + r : Nat) : Int) = 1 + (r : Int) by omega] at hget
    have hs1 : b.size + S.size ≤ 9223372036854775807 := by omega
    have hs2 : b.size + S.size + a.size ≤ 9223372036854775807 := by omega
    have hsz2 := Lib.hid hsz
    have H2 := Lib.hid hp1
    have H3 := Lib.hid hget
    clear hsz hn1 hp1 hget hlen
    go_enter Try.func4, Try.ntmps4
    go_wp2_with (first
      | (go_at_call 10; ((with_reducible refine (H0.out _).mono ?_); rintro e w0 ⟨rfl, rfl⟩))
      | (go_at_call 10; ((with_reducible refine (H1.out _).mono ?_); rintro e w0 ⟨rfl, rfl⟩))
      | (go_at_call 6; ((with_reducible refine (H2.out _).mono ?_); rintro e w1 ⟨rfl, hb1⟩))
      | (go_at_call 8; ((with_reducible refine (H3.out _).mono ?_); rintro e w2 ⟨rfl, rfl⟩))
      | (go_at_call 5; refine (codecAwake _).mono ?_; rintro e w5 ⟨rfl, hb5⟩))
    go_ret
    exact ⟨ret_true (by rw [hsz2.out]; simp), hb1.trans (hb5.mono hb1.size)⟩
end Go.Proofs.Ytnbcflbmookggaa
