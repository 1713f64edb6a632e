
/- What the program's counters are to do, in the words of the contracts of the document's own; the walk of the law's agree under it. -/
import Derived.Test.YtoclcefnecghfaaCntChange
import Derived.Test.YtoclcefnecghfaaCntOf
namespace Go.Proofs.Ytoclcefnecghfaa.Ents
open Go.RowKit Plan EntMath CntMath
theorem heap3 (w : World) (p q r : Obj) : (((w.alloc p).alloc q).alloc r).heap[w.heap.size]? = some p ∧ (((w.alloc p).alloc q).alloc r).heap[w.heap.size + 1]? = some q ∧ (((w.alloc p).alloc q).alloc r).heap[w.heap.size + 2]? = some r := by
  have h3 := heap_alloc_new ((w.alloc p).alloc q) r
  rw [show ((w.alloc p).alloc q).heap.size = w.heap.size + 2 from by simp] at h3
  exact ⟨e_al (heap_first w p q) r, e_al (heap_second w p q) r, h3⟩
end Go.Proofs.Ytoclcefnecghfaa.Ents
