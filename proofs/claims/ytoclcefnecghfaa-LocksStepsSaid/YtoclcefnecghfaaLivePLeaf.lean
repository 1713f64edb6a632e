
/- The walks of the program's possible, isZone, countable, Valid, ifValid of counters, and of the library's Clone at numbers. -/
import Derived.Test.YtoclcefnecghfaaCntAgree
import Derived.Lib.SliceRun
namespace Go.Proofs.Ytoclcefnecghfaa.Ents
open Go.RowKit Plan EntMath CntMath
theorem countable_bad {Z : List Int} {j : Nat} {z : Int} (he : Z[j]? = some z) (h : z < 0 ∨ 1099511627776 < z) : Z.all okN = false := by
  cases ho : Z.all okN
  · rfl
  · have := ok_n.1 (List.all_eq_true.1 ho z (List.mem_of_getElem? he)); omega
theorem countable_good {Z : List Int} (h : ∀ (j : Nat) (z : Int), Z[j]? = some z → 0 ≤ z ∧ z ≤ 1099511627776) : Z.all okN = true :=
  List.all_eq_true.2 fun z hz => by obtain ⟨j, hj⟩ := List.mem_iff_getElem?.1 hz; exact ok_n.2 (h j z hj)
end Go.Proofs.Ytoclcefnecghfaa.Ents
