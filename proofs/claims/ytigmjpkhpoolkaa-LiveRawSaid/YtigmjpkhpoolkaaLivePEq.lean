
/- The comparison of two entries as structs; the index of a list of numbers and the store there. -/
import Derived.Test.YtigmjpkhpoolkaaLivePClr
namespace Go.Proofs.Ytigmjpkhpoolkaa.Ents
open Go.RowKit Plan EntMath CntMath
theorem ent_eql (o f : Ent) (w : World) : (binOp .eql 28 (entV o) (entV f)).run Try.prog w = .ok (.bool (decide (o = f))) w := by
  obtain ⟨b1, k1, v1, m1, z1, o1⟩ := o
  obtain ⟨b2, k2, v2, m2, z2, o2⟩ := f
  have hd : decide ((⟨b1, k1, v1, m1, z1, o1⟩ : Ent) = ⟨b2, k2, v2, m2, z2, o2⟩) = (decide (b1 = b2) && decide (k1 = k2) && decide (v1 = v2) && decide (m1 = m2) && decide (z1 = z2) && decide (o1 = o2)) := by
    rw [← Bool.decide_and, ← Bool.decide_and, ← Bool.decide_and, ← Bool.decide_and, ← Bool.decide_and]
    refine decide_eq_decide.2 ?_
    rw [Ent.mk.injEq]
    simp only [and_assoc]
  rw [hd]
  go_simp
  repeat' split
  all_goals simp_all
theorem idx_store_int {ops : Array Oper} {rest : List Oper} {a : Act} {w : World} {Q : Exit → Act → World → Prop} (tt ty : TypeId) (d : Tmp) (s i y : Operand) {t1 t' : TypeId} {pos1 pos : String} {after1 after : Array Edge}
    (g o : Nat) (k : IntKind) (n : Int) (hv : (execOp a.eval ⟨some d, .indexAddr tt s i, t1, pos1, after1, none⟩).run Try.prog w = .ok (.value (.pointer (some ⟨g, o, none⟩))) w)
    (hx : (a.put (some d) (.pointer (some ⟨g, o, none⟩))).eval (.tmp d) = .pointer (some ⟨g, o, none⟩)) (hy : (a.put (some d) (.pointer (some ⟨g, o, none⟩))).eval y = .int k n) (hc : ∃ u, w.cell? ⟨g, o, none⟩ = some u) (hf : w.frozen? ⟨g, o, none⟩ = false) (hi : (Try.prog.info? ty).map (·.size) = some 1)
    (h : ∀ w', w' = w.setCell ⟨g, o, none⟩ (.int k n) → wpList Try.prog ops Q rest ((a.put (some d) (.pointer (some ⟨g, o, none⟩))).put none undef) w') :
    wpList Try.prog ops Q (⟨some d, .indexAddr tt s i, t1, pos1, after1, none⟩ :: ⟨none, .store ty (.tmp d) y, t', pos, after, none⟩ :: rest) a w :=
  wpList_plain rfl fun _ hK => by
    unfold Oper.wp
    rw [hv]
    exact hK _ _ (store_int_c ty (.tmp d) y g o k n hx hy hc hf hi (h _ rfl))
end Go.Proofs.Ytigmjpkhpoolkaa.Ents
