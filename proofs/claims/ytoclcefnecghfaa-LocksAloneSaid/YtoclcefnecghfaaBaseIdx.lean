
/- The index of a list and the store of a number there, as one step. -/
import Derived.Test.YtoclcefnecghfaaBaseStore
namespace Go.Proofs.Ytoclcefnecghfaa.Put
open Go.RowKit
theorem idx_store_int {ops : Array Oper} {rest : List Oper} {a : Act} {w : World} {Q : Exit → Act → World → Prop} (tt ty : TypeId) (d : Tmp) (s i y : Operand) {t1 t' : TypeId} {pos1 pos : String} {after1 after : Array Edge}
    (g o : Nat) (k : IntKind) (n : Int) (hv : (execOp a.eval ⟨some d, .indexAddr tt s i, t1, pos1, after1, none⟩).run Try.prog w = .ok (.value (.pointer (some ⟨g, o, none⟩))) w)
    (hx : (a.put (some d) (.pointer (some ⟨g, o, none⟩))).eval (.tmp d) = .pointer (some ⟨g, o, none⟩)) (hy : (a.put (some d) (.pointer (some ⟨g, o, none⟩))).eval y = .int k n) (hc : ∃ u, w.cell? ⟨g, o, none⟩ = some u) (hf : w.frozen? ⟨g, o, none⟩ = false) (hi : (Try.prog.info? ty).map (·.size) = some 1)
    (h : ∀ w', w' = w.setCell ⟨g, o, none⟩ (.int k n) → wpList Try.prog ops Q rest ((a.put (some d) (.pointer (some ⟨g, o, none⟩))).put none undef) w') :
    wpList Try.prog ops Q (⟨some d, .indexAddr tt s i, t1, pos1, after1, none⟩ :: ⟨none, .store ty (.tmp d) y, t', pos, after, none⟩ :: rest) a w :=
  wpList_plain rfl fun _ hK => by
    unfold Oper.wp
    rw [hv]
    exact hK _ _ (wpList_plain rfl fun _ hK => wp_store_int ty (.tmp d) y rfl g o k n hx hy hc hf hi (hK _ _ (h _ rfl)))
end Go.Proofs.Ytoclcefnecghfaa.Put
