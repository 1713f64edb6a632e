
/- The walk of the document's Find. -/
import Derived.Test.YtljdepnhhngbeaaEntValid
namespace Go.Proofs.Ytljdepnhhngbeaa.Ents
open Go.RowKit Plan EntMath
/-- what Find gives -/
def findV (L : List Ent) (b : Int) : Value := .tuple #[entV ((findE L b).getD zeroE), .bool (findE L b).isSome]
theorem findV_none {L : List Ent} {b : Int} (h : findE L b = none) : findV L b = .tuple #[.agg #[.int .i64 0, .int .i64 0, .int .i64 0, .int .i64 0, .int .i64 0, .int .i64 0], .bool false] := by unfold findV; rw [h]; rfl
theorem findV_some {L : List Ent} {b : Int} {e : Ent} (h : findE L b = some e) : findV L b = .tuple #[entV e, .bool true] := by unfold findV; rw [h]; rfl
theorem find_invalid {L : List Ent} {b : Int} (h : validB L = false) : findE L b = none := by unfold findE; rw [if_neg (by rw [h]; decide)]
theorem find_at {L : List Ent} {b : Int} (h : validB L = true) {e : Ent} (he : L[place L b]? = some e) : findE L b = if e.block = b then some e else none := by
  unfold findE
  rw [if_pos h, look_place (valid_iff.1 h).2, he]
theorem find_past {L : List Ent} {b : Int} (h : validB L = true) (he : L.length ≤ place L b) : findE L b = none := by
  unfold findE
  rw [if_pos h, look_place (valid_iff.1 h).2, List.getElem?_eq_none he]
end Go.Proofs.Ytljdepnhhngbeaa.Ents
