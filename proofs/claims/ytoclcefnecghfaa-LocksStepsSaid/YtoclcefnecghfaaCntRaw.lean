
/- The walks of the law's awake and of LiveRaw, under the program's contracts. -/
import Derived.Test.YtoclcefnecghfaaCntAgree
namespace Go.Proofs.Ytoclcefnecghfaa.Ents
open Go.RowKit Plan EntMath CntMath
abbrev six0 : Cnt := ⟨[0, 0, 0, 0, 0, 0], [0, 0, 0, 0, 0, 0]⟩
abbrev six2 : Cnt := ⟨[0, 0, 1, 0, 0, 0], [0, 0, 0, 0, 0, 0]⟩
abbrev six5 : Cnt := ⟨[0, 0, 0, 0, 0, 1], [0, 0, 0, 0, 0, 0]⟩
theorem aw_cnew : newC 6 = six0 ∧ newCE 6 = 0 := by decide
theorem aw_chg1 : changeC six0 0 2 false true = six2 ∧ changeB six0 0 2 false true = true := by decide
theorem aw_chg2 : changeC six2 2 5 true true = six5 ∧ changeB six2 2 5 true true = true := by decide
theorem aw_chg3 : changeC six5 2 5 true true = six5 ∧ changeB six5 2 5 true true = false := by decide
end Go.Proofs.Ytoclcefnecghfaa.Ents
