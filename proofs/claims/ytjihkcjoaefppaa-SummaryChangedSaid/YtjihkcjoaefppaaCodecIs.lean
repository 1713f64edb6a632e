/- Walks of the small functions beside the codec: the size test. -/
import Derived.Test.YtjihkcjoaefppaaCodecMath
import Derived.Test.YtjihkcjoaefppaaBaseMod
import Derived.WalkKit
import Derived.ProofKit
import Derived.Outline
import Derived.Lib.Hide
namespace Go.Proofs.Ytjihkcjoaefppaa
open Go.RowKit

theorem isSize_yes (k : Nat) (h1 : 1 ≤ k) (h7 : k ≤ 7) (w : World) :
    Calls Try.prog 42 #[.int .i64 k] w fun e w' => e = .returned (.bool true) ∧ w = w' := by
  have hd : decide ((k : Int) ≤ 7) = true := by simp; omega
  go_enter Try.func42, Try.ntmps42
  go_wp2
  go_ret
  exact ⟨rfl, rfl⟩
theorem isSize_no (k : Int) (h : k < 1 ∨ 7 < k) (w : World) :
    Calls Try.prog 42 #[.int .i64 k] w fun e w' => e = .returned (.bool false) ∧ w = w' := by
  rcases h with h | h
  · go_enter Try.func42, Try.ntmps42
    go_wp2
    go_ret
    exact ⟨rfl, rfl⟩
  · have h1 : 1 ≤ k := by omega
    have hd : decide (k ≤ 7) = false := by simp; omega
    go_enter Try.func42, Try.ntmps42
    go_wp2
    go_ret
    exact ⟨rfl, rfl⟩
end Go.Proofs.Ytjihkcjoaefppaa
