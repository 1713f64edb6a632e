/- The walk of the statement that a checksum can be continued at any place, for any start and any two strings of bytes. -/
import Derived.Test.YtijdkjiofanglaaCrcExactWalk
namespace Go.Proofs.Ytijdkjiofanglaa
open Go.RowKit

theorem parts_eq (x : Nat) (a b : ByteArray) : CrcMath.crc (CrcMath.crc x a.data.toList) b.data.toList = CrcMath.crc x (a ++ b).data.toList := by
  rw [show (a ++ b).data.toList = a.data.toList ++ b.data.toList by simp, CrcMath.crc_append]

theorem below_then {w w1 w2 : World} (h : Below w.heap.size w w1) (k : Below w1.heap.size w1 w2) : Below w.heap.size w w2 := h.trans (k.mono h.size)

set_option maxHeartbeats 400000 in
theorem parts_any (x : Nat) (a b : ByteArray) (hx : x < 4294967296) (ha : a.size ≤ 140737488351232) (hb : b.size ≤ 140737488351232) (w : World) :
    Calls Try.prog 4 #[.int .u32 (x : Int), .string a, .string b] w fun e w' => e = .returned (.bool true) ∧ Below w.heap.size w w' := by
  by_cases h : 2000 < a.size + b.size
  · have hr : (2000 : Int) < (a.size : Int) + (b.size : Int) := by omega
    go_enter Try.func4, Try.ntmps4
    go_wp2_with (go_at_call 6; refine (awake_any _).mono ?_; rintro e w1 ⟨rfl, hb1⟩)
    go_ret
    exact ⟨rfl, hb1⟩
  · have hr : ¬ (2000 : Int) < (a.size : Int) + (b.size : Int) := by omega
    have hc := CrcMath.crc_lt x a.data.toList
    have he := Lib.hid (parts_eq x a b)
    have hma : a.size ≤ maxLen := Nat.le_trans ha (by decide)
    have hmb : b.size ≤ maxLen := Nat.le_trans hb (by decide)
    have hab : (a ++ b).size ≤ maxLen := by have : (a ++ b).size = a.size + b.size := by simp
                                            unfold maxLen; omega
    have h1 := fun w => add_any x a hx hma w
    have h2 := fun w => add_any (CrcMath.crc x a.data.toList) b hc hmb w
    have h3 := fun w => add_any x (a ++ b) hx hab w
    generalize CrcMath.crc x a.data.toList = C at h1 h2 he
    rw [← he.out] at h3
    generalize CrcMath.crc C b.data.toList = D at h2 h3
    have H1 := Lib.hid h1
    have H2 := Lib.hid h2
    have H3 := Lib.hid h3
    clear h1 h2 h3 he hc
    go_enter Try.func4, Try.ntmps4
    go_wp2_with (first | (go_at_call 6; refine (awake_any _).mono ?_; rintro e w1 ⟨rfl, hb1⟩) | (go_at_call 7; ((with_reducible refine (H1.out _).mono ?_); rintro e w2 ⟨rfl, hb2⟩)) | (go_at_call 7; ((with_reducible refine (H2.out _).mono ?_); rintro e w3 ⟨rfl, hb3⟩)) | (go_at_call 7; ((with_reducible refine (H3.out _).mono ?_); rintro e w4 ⟨rfl, hb4⟩)))
    go_ret
    exact ⟨rfl, below_then (below_then (below_then hb1 hb2) hb3) hb4⟩

theorem parts_law (n : Int) (a b : ByteArray) (hn : (Lit.int .u32 n).wf = true) (ha : a.size ≤ 140737488351232) (hb : b.size ≤ 140737488351232) (w : World) :
    Calls Try.prog 4 #[.int .u32 n, .string a, .string b] w fun e w' => e = .returned (.bool true) ∧ Below w.heap.size w w' := by
  obtain ⟨x, rfl, hx⟩ := u32_nat hn
  exact parts_any x a b hx ha hb w

end Go.Proofs.Ytijdkjiofanglaa
