
/- The walks of the document's entry, place and Valid. -/
import Derived.Test.YtljdepnhhngbeaaEntIs
namespace Go.Proofs.Ytljdepnhhngbeaa.Ents
open Go.RowKit Plan EntMath
theorem ok_iff {e : Ent} : okE e = true ↔ (e.kind = 1 ∨ e.kind = 2) ∧ 1 ≤ e.version ∧ e.version ≤ 1099511627776 ∧ 0 ≤ e.move ∧ e.move ≤ 255 ∧ 0 ≤ e.block ∧ 0 ≤ e.zone ∧ 0 ≤ e.offset := by
  simp [okE, Bool.and_eq_true, and_assoc]
theorem ok_not {e : Ent} (h : ¬ ((e.kind = 1 ∨ e.kind = 2) ∧ 1 ≤ e.version ∧ e.version ≤ 1099511627776 ∧ 0 ≤ e.move ∧ e.move ≤ 255 ∧ 0 ≤ e.block ∧ 0 ≤ e.zone ∧ 0 ≤ e.offset)) : okE e = false := by
  cases hE : okE e
  · rfl
  · exact absurd (ok_iff.1 hE) h
theorem e_dec {E : Bool} {p : Prop} [Decidable p] (h1 : p → E = true) (h2 : ¬ p → E = false) : decide p = E := by
  by_cases h : p
  · rw [decide_eq_true h, h1 h]
  · rw [decide_eq_false h, h2 h]
end Go.Proofs.Ytljdepnhhngbeaa.Ents
