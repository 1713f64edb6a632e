/- The walks of the statement that the program's checksum is the document's own, for any start and any bytes. -/
import Derived.Test.YtijdkjiofanglaaCrcAdd
namespace Go.Proofs.Ytijdkjiofanglaa
open Go.RowKit

set_option maxHeartbeats 400000 in
theorem sum_any (s : ByteArray) (hs : s.size ≤ maxLen) (w : World) :
    Calls Try.prog 9 #[.string s] w fun e w' => e = .returned (.int .u32 (CrcMath.crc 0 s.data.toList : Nat)) ∧ Below w.heap.size w w' := by
  go_enter Try.func9, Try.ntmps9
  go_wp2_with (go_at_call 7; refine (add_any 0 s (by decide) hs _).mono ?_; rintro e w1 ⟨rfl, hb1⟩)
  go_ret
  exact ⟨rfl, hb1⟩
set_option maxHeartbeats 400000 in
theorem refsum_any (s : ByteArray) (hs : s.size ≤ maxLen) (w : World) :
    Calls Try.prog 10 #[.string s] w fun e w' => e = .returned (.int .u32 (CrcMath.crc 0 s.data.toList : Nat)) ∧ w = w' := by
  go_enter Try.func10, Try.ntmps10
  go_wp2_with (go_at_call 8; refine (ref_any 0 s (by decide) hs _).mono ?_; rintro e w1 ⟨rfl, rfl⟩)
  go_ret
  exact ⟨rfl, rfl⟩
theorem crc_nine : CrcMath.crc 0 [49, 50, 51, 52, 53, 54, 55, 56, 57] = 3421780262 := by decide +kernel
theorem crc_nil : CrcMath.crc 0 [] = 0 := by decide +kernel
theorem sum_nine (w : World) : Calls Try.prog 9 #[.string { data := #[49, 50, 51, 52, 53, 54, 55, 56, 57] }] w fun e w' => e = .returned (.int .u32 3421780262) ∧ Below w.heap.size w w' :=
  (sum_any { data := #[49, 50, 51, 52, 53, 54, 55, 56, 57] } (by decide) w).mono fun _ _ ⟨he, hb⟩ => ⟨he.trans (ret_u32 (by rw [show (({ data := #[49, 50, 51, 52, 53, 54, 55, 56, 57] } : ByteArray).data.toList) = [49, 50, 51, 52, 53, 54, 55, 56, 57] from rfl, crc_nine]; rfl)), hb⟩
theorem sum_nil (w : World) : Calls Try.prog 9 #[.string { data := #[] }] w fun e w' => e = .returned (.int .u32 0) ∧ Below w.heap.size w w' :=
  (sum_any { data := #[] } (by decide) w).mono fun _ _ ⟨he, hb⟩ => ⟨he.trans (ret_u32 (by rw [show (({ data := #[] } : ByteArray).data.toList) = [] from rfl, crc_nil]; rfl)), hb⟩

set_option maxHeartbeats 400000 in
theorem awake_any (w : World) : Calls Try.prog 6 #[] w fun e w' => e = .returned (.bool true) ∧ Below w.heap.size w w' := by
  go_enter Try.func6, Try.ntmps6
  go_wp2_with (first | (go_at_call 9; refine (sum_nine _).mono ?_; rintro e w1 ⟨rfl, hb1⟩) | (go_at_call 9; refine (sum_nil _).mono ?_; rintro e w2 ⟨rfl, hb2⟩))
  go_ret
  exact ⟨rfl, hb1.trans (hb2.mono hb1.size)⟩

set_option maxHeartbeats 400000 in
theorem exact_any (x : Nat) (s : ByteArray) (hx : x < 4294967296) (hs : s.size ≤ maxLen) (w : World) :
    Calls Try.prog 3 #[.int .u32 (x : Int), .string s] w fun e w' => e = .returned (.bool true) ∧ Below w.heap.size w w' := by
  by_cases h : 2000 < s.size
  · have hs' := hs
    unfold maxLen at hs'
    go_enter Try.func3, Try.ntmps3
    go_wp2_with (go_at_call 6; refine (awake_any _).mono ?_; rintro e w1 ⟨rfl, hb1⟩)
    go_ret
    exact ⟨rfl, hb1⟩
  · have hs' := hs
    unfold maxLen at hs'
    go_enter Try.func3, Try.ntmps3
    go_wp2_with (first | (go_at_call 6; refine (awake_any _).mono ?_; rintro e w1 ⟨rfl, hb1⟩) | (go_at_call 7; refine (add_any x s hx hs _).mono ?_; rintro e w2 ⟨rfl, hb2⟩) | (go_at_call 8; refine (ref_any x s hx hs _).mono ?_; rintro e w3 ⟨rfl, rfl⟩) | (go_at_call 9; refine (sum_any s hs _).mono ?_; rintro e w4 ⟨rfl, hb4⟩) | (go_at_call 10; refine (refsum_any s hs _).mono ?_; rintro e w5 ⟨rfl, rfl⟩))
    go_ret
    exact ⟨rfl, (hb1.trans (hb2.mono hb1.size)).trans (hb4.mono (Nat.le_trans hb1.size hb2.size))⟩

theorem u32_nat {n : Int} (h : (Lit.int .u32 n).wf = true) : ∃ x : Nat, n = (x : Int) ∧ x < 4294967296 := by
  have hx : 0 ≤ n ∧ n ≤ 4294967295 := by simpa [Lit.wf, IntKind.min, IntKind.max, IntKind.signed, IntKind.bits] using h
  exact ⟨n.toNat, by omega, by omega⟩

theorem exact_law (n : Int) (s : ByteArray) (hn : (Lit.int .u32 n).wf = true) (hs : s.size ≤ maxLen) (w : World) :
    Calls Try.prog 3 #[.int .u32 n, .string s] w fun e w' => e = .returned (.bool true) ∧ Below w.heap.size w w' := by
  obtain ⟨x, rfl, hx⟩ := u32_nat hn
  exact exact_any x s hx hs w

end Go.Proofs.Ytijdkjiofanglaa
