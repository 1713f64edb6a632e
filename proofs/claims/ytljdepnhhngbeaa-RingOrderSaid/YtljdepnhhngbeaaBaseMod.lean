
/- The walk of the maker's remainder that is never negative, for every number and every modulus up to 2^62. -/
import Derived.Test.YtljdepnhhngbeaaRows
import Derived.WalkKit
import Derived.ProofKit
import Derived.Outline
import Derived.Lib.Hide
namespace Go.Proofs.Ytljdepnhhngbeaa
open Go.RowKit

theorem mod_val (x m : Int) (hm : 1 ≤ m) (hm2 : m ≤ 4611686018427387904) : (wrap64 (x.tmod m + m)).tmod m = x % m := by
  have h1 : -m < x.tmod m ∧ x.tmod m < m := ⟨by have := Int.lt_tmod_of_pos x (b := m) (by omega); omega, Int.tmod_lt_of_pos x (by omega)⟩
  have w2 : wrap64 (x.tmod m + m) = x.tmod m + m := by unfold wrap64; omega
  rw [w2, Int.tmod_eq_emod_of_nonneg (by omega), Int.add_emod_right]
  rw [Int.tmod_eq_emod]
  split
  · simp
  · rw [show (m.natAbs : Int) = m by omega, Int.sub_emod_right, Int.emod_emod]
theorem ret_i64 {a b : Int} (h : a = b) : Ending.returned (.int .i64 a) = .returned (.int .i64 b) := by rw [h]
end Go.Proofs.Ytljdepnhhngbeaa
