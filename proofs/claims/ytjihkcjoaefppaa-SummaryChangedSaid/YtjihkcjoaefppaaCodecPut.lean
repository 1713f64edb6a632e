/- The walks of Put: the program's and the document's own, for any number and any size. -/
import Derived.Test.YtjihkcjoaefppaaCodecIs
import Derived.Laws.IdiomStrings
import Derived.Deep.OwnRows
import Derived.Below
namespace Go.Proofs.Ytjihkcjoaefppaa
open Go.RowKit

theorem info_byte : (Try.prog.info? 5).map (fun i => (i.zero, i.size, i.bytes)) = some (some (.int .u8 0), 1, 1) := by kernel_rfl
theorem wrap_pow (k : Nat) (h7 : k ≤ 7) : wrap64 (2 ^ (8 * k)) = ((256 ^ k : Nat) : Int) := by
  have h := CodecMath.pow_le k h7
  have e : (2 : Int) ^ (8 * k) = ((256 ^ k : Nat) : Int) := by rw [← CodecMath.pow_two]; simp
  rw [e]
  generalize 256 ^ k = p at h ⊢
  unfold wrap64; omega
theorem byte_val (n i : Nat) : (n : Int) / 2 ^ (8 * i) % 256 = ((CodecMath.byteOf n i).toNat : Int) := by
  rw [CodecMath.byteOf_nat]
  have e : (2 : Int) ^ (8 * i) = ((256 ^ i : Nat) : Int) := by rw [← CodecMath.pow_two]; simp
  rw [e]; simp
/-- a block of k bytes of which the first i are those of n -/
def rowF (n i j : Nat) : Value := if j < i then .int .u8 ((CodecMath.byteOf n j).toNat : Int) else .int .u8 0
theorem row_next {w : World} {B k i n : Nat} (h : w.rowIs B 5 k (rowF n i)) {x : Int} (hx : x = ((CodecMath.byteOf n i).toNat : Int)) : (w.setCell ⟨B, i, none⟩ (.int .u8 x)).rowIs B 5 k (rowF n (i + 1)) := by
  refine (h.set i _).congr fun j hj => ?_
  unfold rowF
  by_cases he : j = i
  · subst he; rw [if_pos rfl, if_pos (by omega), hx]
  · rw [if_neg he]
    by_cases h1 : j < i
    · rw [if_pos h1, if_pos (by omega)]
    · rw [if_neg h1, if_neg (by omega)]
theorem conv_bytes {w : World} {B k n : Nat} (h : w.rowIs B 5 k (rowF n k)) :
    (convert 56 9 (.slice (some ⟨B, 0, none⟩) k k)).run Try.prog w = .ok (.string ⟨(CodecMath.bytes n k).toArray⟩) w := by
  have h1 := run_convert_bytes_back (P := Try.prog) w 56 9 5 ⟨B, 0, none⟩ k (CodecMath.bytes n k) Try.underlying56 Try.underlying5 Try.underlying9 (fun j hj => by
    have hj' : j < k := by simpa [CodecMath.bytes_length] using hj
    have e : (⟨B, 0, none⟩ : Addr).add j = ⟨B, j, none⟩ := by unfold Addr.add; split <;> simp_all
    rw [e, h.cell hj', CodecMath.bytes_get, rowF, if_pos hj'])
  rwa [CodecMath.bytes_length] at h1

theorem put_ok (n k : Nat) (w : World) (h1 : 1 ≤ k) (h7 : k ≤ 7) (hn : n < 256 ^ k) :
    Calls Try.prog 30 #[.int .i64 n, .int .i64 k] w fun e w' => e = .returned (.tuple #[.string ⟨(CodecMath.bytes n k).toArray⟩, .int .i64 0]) ∧ Below w.heap.size w w' := by
  have hP := wrap_pow k h7
  have hP2 := CodecMath.pow_le k h7
  have hn' : (n : Int) < ((256 ^ k : Nat) : Int) := by omega
  generalize ((256 ^ k : Nat) : Int) = P at hP hn'
  have hmk := fun w => run_make_row' (P := Try.prog) 56 5 (.int .u8 0) 1 Try.underlying56 info_byte rfl .i64 .i64 k (by omega) (by omega) w
  clear hn
  go_enter Try.func30, Try.ntmps30
  go_wp2_with (go_at_call 42; refine (isSize_yes _ h1 h7 _).mono ?_; rintro e w' ⟨rfl, rfl⟩)
  clear hmk
  go_loopw [7, 26] (fun v b wr => ∃ i : Nat, b = .int .i64 i ∧ i ≤ k ∧ wr.rowIs w.heap.size 5 k (rowF n i) ∧ Below w.heap.size w wr) (fun _ b _ => k - (intOf b).toNat)
  case atStart => exact ⟨0, rfl, by omega, (World.rowIs_made _ _ _ _).congr (by simp [rowF]), (Below.refl _ _).alloc (Nat.le_refl _) _⟩
  case round =>
    obtain ⟨i, rfl, hi, hrow, hb⟩ := hrel
    by_cases hlt : i < k
    · have hc := hrow.cell hlt
      have hf := hrow.frozen i
      have hv := Lib.hid (byte_val n i)
      have hnx := Lib.hid (row_next hrow hv.out)
      clear hrow
      go_wp2
      go_roundw
      case rel => exact ⟨i + 1, by go_num, by omega, hnx.out, hb.setCell (Nat.le_refl _) _⟩
      case measure => simp [intOf]; omega
    · obtain rfl : i = k := by omega
      have hcv := conv_bytes hrow
      clear hrow
      go_wp2
      go_ret2
      exact ⟨rfl, hb⟩

theorem refPut_ok (n k : Nat) (w : World) (h1 : 1 ≤ k) (h7 : k ≤ 7) (hn : n < 256 ^ k) :
    Calls Try.prog 24 #[.int .i64 n, .int .i64 k] w fun e w' => e = .returned (.tuple #[.string ⟨(CodecMath.bytes n k).toArray⟩, .int .i64 0]) ∧ Below w.heap.size w w' := by
  have hP := wrap_pow k h7
  have hP2 := CodecMath.pow_le k h7
  have hn' : (n : Int) < ((256 ^ k : Nat) : Int) := by omega
  generalize ((256 ^ k : Nat) : Int) = P at hP hn'
  have hmk := fun w => run_make_row' (P := Try.prog) 56 5 (.int .u8 0) 1 Try.underlying56 info_byte rfl .i64 .i64 k (by omega) (by omega) w
  clear hn
  go_enter Try.func24, Try.ntmps24
  go_wp2
  clear hmk
  go_loopw [7] (fun b wr => ∃ i : Nat, b = .int .i64 i ∧ i ≤ k ∧ wr.rowIs w.heap.size 5 k (rowF n i) ∧ Below w.heap.size w wr) (fun b _ => k - (intOf b).toNat)
  case atStart => exact ⟨0, rfl, by omega, (World.rowIs_made _ _ _ _).congr (by simp [rowF]), (Below.refl _ _).alloc (Nat.le_refl _) _⟩
  case round =>
    obtain ⟨i, rfl, hi, hrow, hb⟩ := hrel
    by_cases hlt : i < k
    · have hc := hrow.cell hlt
      have hf := hrow.frozen i
      have hv := Lib.hid (byte_val n i)
      have hnx := Lib.hid (row_next hrow hv.out)
      clear hrow
      go_wp2
      go_roundw
      case rel => exact ⟨i + 1, by go_num, by omega, hnx.out, hb.setCell (Nat.le_refl _) _⟩
      case measure => simp [intOf]; omega
    · obtain rfl : i = k := by omega
      have hcv := conv_bytes hrow
      clear hrow
      go_wp2
      go_ret2
      exact ⟨rfl, hb⟩

/-- arguments that have no bytes -/
theorem put_cases {n k : Int} (h : CodecMath.okPut n k = false) : (k < 1 ∨ 7 < k) ∨ (1 ≤ k ∧ k ≤ 7 ∧ n < 0) ∨ (1 ≤ k ∧ k ≤ 7 ∧ 0 ≤ n ∧ ((256 ^ k.toNat : Nat) : Int) ≤ n) := by
  have h' : ¬ (((1 ≤ k ∧ k ≤ 7) ∧ 0 ≤ n) ∧ n < ((256 ^ k.toNat : Nat) : Int)) := by
    intro hh
    simp only [CodecMath.okPut] at h
    rw [decide_eq_true hh.1.1.1, decide_eq_true hh.1.1.2, decide_eq_true hh.1.2, decide_eq_true hh.2] at h
    cases h
  generalize ((256 ^ k.toNat : Nat) : Int) = P at h' ⊢
  omega
theorem put_no (n k : Int) (w : World) (h : CodecMath.okPut n k = false) :
    Calls Try.prog 30 #[.int .i64 n, .int .i64 k] w fun e w' => e = .returned (.tuple #[.string ⟨#[]⟩, .int .i64 1]) ∧ Below w.heap.size w w' := by
  have hp := put_cases h
  clear h
  rcases hp with h | ⟨h1, h7, hn⟩ | ⟨h1, h7, h0, hn⟩
  · go_enter Try.func30, Try.ntmps30
    go_wp2_with (go_at_call 42; refine (isSize_no _ h _).mono ?_; rintro e w' ⟨rfl, rfl⟩)
    go_ret2
    exact ⟨rfl, Below.refl _ _⟩
  · obtain ⟨k, rfl⟩ := Int.eq_ofNat_of_zero_le (by omega : 0 ≤ k)
    go_enter Try.func30, Try.ntmps30
    go_wp2_with (go_at_call 42; refine (isSize_yes _ (by omega) (by omega) _).mono ?_; rintro e w' ⟨rfl, rfl⟩)
    go_ret2
    exact ⟨rfl, Below.refl _ _⟩
  · obtain ⟨k, rfl⟩ := Int.eq_ofNat_of_zero_le (by omega : 0 ≤ k)
    have hP := wrap_pow k (by omega)
    rw [Int.toNat_natCast] at hn
    generalize ((256 ^ k : Nat) : Int) = P at hP hn
    have hd : decide (P ≤ n) = true := by simpa using hn
    have hd2 : decide (n < 0) = false := by simp; omega
    go_enter Try.func30, Try.ntmps30
    go_wp2_with (go_at_call 42; refine (isSize_yes _ (by omega) (by omega) _).mono ?_; rintro e w' ⟨rfl, rfl⟩)
    go_ret2
    exact ⟨rfl, Below.refl _ _⟩
theorem refPut_no (n k : Int) (w : World) (h : CodecMath.okPut n k = false) :
    Calls Try.prog 24 #[.int .i64 n, .int .i64 k] w fun e w' => e = .returned (.tuple #[.string ⟨#[]⟩, .int .i64 1]) ∧ Below w.heap.size w w' := by
  have hp := put_cases h
  clear h
  rcases hp with (h | h) | ⟨h1, h7, hn⟩ | ⟨h1, h7, h0, hn⟩
  · go_enter Try.func24, Try.ntmps24
    go_wp2
    go_ret2
    exact ⟨rfl, Below.refl _ _⟩
  · have hd : decide (7 < k) = true := by simpa using h
    have hd2 : ¬ k < 1 := by omega
    go_enter Try.func24, Try.ntmps24
    go_wp2
    go_ret2
    exact ⟨rfl, Below.refl _ _⟩
  · have hd : decide (n < 0) = true := by simpa using hn
    go_enter Try.func24, Try.ntmps24
    go_wp2
    go_ret2
    exact ⟨rfl, Below.refl _ _⟩
  · obtain ⟨k, rfl⟩ := Int.eq_ofNat_of_zero_le (by omega : 0 ≤ k)
    have hP := wrap_pow k (by omega)
    rw [Int.toNat_natCast] at hn
    generalize ((256 ^ k : Nat) : Int) = P at hP hn
    have hd : decide (P ≤ n) = true := by simpa using hn
    have hd2 : decide (n < 0) = false := by simp; omega
    go_enter Try.func24, Try.ntmps24
    go_wp2
    go_ret2
    exact ⟨rfl, Below.refl _ _⟩

theorem okPut_nat {n k : Int} (h : CodecMath.okPut n k = true) : ∃ n' k' : Nat, n = n' ∧ k = k' ∧ 1 ≤ k' ∧ k' ≤ 7 ∧ n' < 256 ^ k' := by
  simp only [CodecMath.okPut, Bool.and_eq_true, decide_eq_true_eq] at h
  obtain ⟨⟨⟨h1, h7⟩, h0⟩, hn⟩ := h
  refine ⟨n.toNat, k.toNat, by omega, by omega, by omega, by omega, ?_⟩
  generalize 256 ^ k.toNat = P at hn ⊢
  omega
/-- Put, whatever the arguments are -/
theorem put_any (n k : Int) (w : World) :
    Calls Try.prog 30 #[.int .i64 n, .int .i64 k] w fun e w' => e = .returned (.tuple #[.string ⟨(CodecMath.putL n k).toArray⟩, .int .i64 (CodecMath.putE n k)]) ∧ Below w.heap.size w w' := by
  cases h : CodecMath.okPut n k
  · rw [CodecMath.putL_no h, CodecMath.putE_no h]
    exact put_no n k w h
  · rw [CodecMath.putL_ok h, CodecMath.putE_ok h]
    obtain ⟨n', k', rfl, rfl, h1, h7, hn⟩ := okPut_nat h
    rw [Int.toNat_natCast, Int.toNat_natCast]
    exact put_ok n' k' w h1 h7 hn
theorem refPut_any (n k : Int) (w : World) :
    Calls Try.prog 24 #[.int .i64 n, .int .i64 k] w fun e w' => e = .returned (.tuple #[.string ⟨(CodecMath.putL n k).toArray⟩, .int .i64 (CodecMath.putE n k)]) ∧ Below w.heap.size w w' := by
  cases h : CodecMath.okPut n k
  · rw [CodecMath.putL_no h, CodecMath.putE_no h]
    exact refPut_no n k w h
  · rw [CodecMath.putL_ok h, CodecMath.putE_ok h]
    obtain ⟨n', k', rfl, rfl, h1, h7, hn⟩ := okPut_nat h
    rw [Int.toNat_natCast, Int.toNat_natCast]
    exact refPut_ok n' k' w h1 h7 hn
end Go.Proofs.Ytjihkcjoaefppaa
