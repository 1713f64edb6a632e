/- Texts that belong together, part 16. -/
import Derived.Test.YthhggiifbldaeaaPack15

/- The walks of the document's own Finish and Close. -/
namespace Go.Proofs.Ythhggiifbldaeaa
open Go.RowKit Plan ZnsMath

theorem getD_of {Z : List Zone} {i : Nat} {z : Zone} (h : Z[i]? = some z) : Z.getD i empty = z := by rw [List.getD_eq_getElem?_getD, h]; rfl
theorem finishR_no {D : Dev} {k : Int} (h : beginE D k ≠ 0) : finishR D k = D := by unfold finishR; rw [if_neg h]
theorem finishR_yes {D : Dev} {i : Nat} {z : Zone} (h : beginE D (i : Int) = 0) (hz : D.zones[i]? = some z) : finishR D (i : Int) = withZ D i ⟨4, z.sectors.length, z.sectors⟩ := by unfold finishR; rw [if_pos h, Int.toNat_natCast, getD_of hz]; rfl
end Go.Proofs.Ythhggiifbldaeaa

/- The walk of the document's own Close. -/
namespace Go.Proofs.Ythhggiifbldaeaa
open Go.RowKit Plan ZnsMath

theorem stateAt_of {D : Dev} {i : Nat} {z : Zone} (h : D.zones[i]? = some z) : stateAt D (i : Int) = z.state := by unfold stateAt; rw [Int.toNat_natCast, getD_of h]
end Go.Proofs.Ythhggiifbldaeaa

/- The walk of the document's own room. -/
namespace Go.Proofs.Ythhggiifbldaeaa
open Go.RowKit Plan ZnsMath

theorem first_le : ∀ Z : List Zone, firstOpen Z ≤ Z.length
  | [] => Nat.le_refl _
  | z :: Z => by
    have := first_le Z
    unfold firstOpen
    split
    · omega
    · simp; omega
theorem first_ne : ∀ (Z : List Zone) (j : Nat) (z : Zone), j < firstOpen Z → Z[j]? = some z → z.state ≠ 1
  | [], j, z, h, hz => by cases hz
  | y :: Z, j, z, h, hz => by
    unfold firstOpen at h
    split at h
    · omega
    · rename_i h1
      cases j with
      | zero =>
        obtain rfl : y = z := by simpa using hz
        exact h1
      | succ j => exact first_ne Z j z (by omega) (by simpa using hz)
theorem first_eq : ∀ (Z : List Zone) (z : Zone), Z[firstOpen Z]? = some z → z.state = 1
  | [], z, hz => by cases hz
  | y :: Z, z, hz => by
    unfold firstOpen at hz
    split at hz
    · rename_i h1
      obtain rfl : y = z := by simpa using hz
      exact h1
    · exact first_eq Z z (by simpa using hz)
theorem bool_of {p : Prop} [Decidable p] (h : p) : decide p = true := by simp [h]
end Go.Proofs.Ythhggiifbldaeaa

/- The walk of the document's own room where a zone is closed for it. -/
namespace Go.Proofs.Ythhggiifbldaeaa
open Go.RowKit Plan ZnsMath

end Go.Proofs.Ythhggiifbldaeaa

/- The walk of the document's own Open. -/
namespace Go.Proofs.Ythhggiifbldaeaa
open Go.RowKit Plan ZnsMath

end Go.Proofs.Ythhggiifbldaeaa

/- The walk of the document's own Open where there must be room. -/
namespace Go.Proofs.Ythhggiifbldaeaa
open Go.RowKit Plan ZnsMath

end Go.Proofs.Ythhggiifbldaeaa

/- The walk of the document's own Read. -/
namespace Go.Proofs.Ythhggiifbldaeaa
open Go.RowKit Plan ZnsMath

end Go.Proofs.Ythhggiifbldaeaa
