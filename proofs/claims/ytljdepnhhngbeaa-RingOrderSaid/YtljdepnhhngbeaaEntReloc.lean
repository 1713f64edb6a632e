
/- The walk of the document's Relocate. -/
import Derived.Test.YtljdepnhhngbeaaEntInst
namespace Go.Proofs.Ytljdepnhhngbeaa.Ents
open Go.RowKit Plan EntMath
/-- what a function that gives a list and a yes or no leaves -/
def RelPost (w : World) (F : Nat → Prop) (L : List Ent) (B : Bool) (r : Ending) (w' : World) : Prop :=
  ∃ a len cap, r = .returned (.tuple #[.slice a len cap, .bool B]) ∧ EList w' (Plus F w.heap.size) a len cap L ∧ Below w.heap.size w w'
theorem rel_a {L : List Ent} {b v fz fo tz to m : Int} (h : validB L = false) : relocL L b v fz fo tz to m = [] ∧ moves L b v fz fo tz to m = false := by
  unfold relocL moves
  rw [find_invalid h]
  simp [h]
theorem rel_no {L : List Ent} {b v fz fo tz to m : Int} (h : validB L = true) (hm : moves L b v fz fo tz to m = false) : relocL L b v fz fo tz to m = L := by
  unfold relocL
  rw [if_pos h, if_neg (by rw [hm]; decide)]
theorem rel_none {L : List Ent} {b v fz fo tz to m : Int} (h : findE L b = none) : moves L b v fz fo tz to m = false := by
  unfold moves
  rw [h]
theorem rel_some {L : List Ent} {b v fz fo tz to m : Int} {y : Ent} (h : findE L b = some y) : moves L b v fz fo tz to m = true ↔ y.version = v ∧ y.zone = fz ∧ y.offset = fo ∧ 0 ≤ tz ∧ 0 ≤ to ∧ 0 ≤ m ∧ m ≤ 255 := by
  unfold moves
  rw [h]
  simp [Bool.and_eq_true, and_assoc]
theorem rel_yes {L : List Ent} {b v fz fo tz to m : Int} {y : Ent} (h : validB L = true) (hy : lookE L b = some y) (hm : moves L b v fz fo tz to m = true) : relocL L b v fz fo tz to m = L.set (place L b) (moved y tz to m) := by
  have hb := look_block hy
  unfold relocL
  rw [if_pos h, if_pos hm, hy]
  have := ins_set (L := L) (moved y tz to m) y (by show lookE L y.block = some y; rw [hb]; exact hy) (valid_iff.1 h).2
  show ins L (moved y tz to m) = _
  rw [← this]
  show L.set (place L y.block) _ = _
  rw [hb]
theorem e_owns_on {w w' : World} {B sz n : Nat} {t : TypeId} {v : Value} {xs : List Value} (h : w.ownsRow B t sz v n xs) (hb : Below w.heap.size w w') : w'.ownsRow B t sz v n xs := by
  refine h.kept (row := none) ⟨hb.os, hb.tape, hb.output, hb.size, fun i hi _ => hb.block i hi⟩ ?_
  cases v.ownBlock <;> simp
theorem e_owns_one {w : World} {B g n cap : Nat} {t : TypeId} {C : List Value} (h : w.ownsRow B t 6 (.slice (some ⟨g, 0, none⟩) n cap) n C) {j : Nat} (hj : j < C.length) : (∃ u, w.cell? ⟨g, j, none⟩ = some u) ∧ w.frozen? ⟨g, j, none⟩ = false := by
  constructor
  · have := h.cells (g := g) rfl j C[j] (List.getElem?_eq_getElem _)
    rw [Addr.add_lit, Nat.zero_add] at this
    exact ⟨_, this⟩
  · rcases h.2 with ⟨h, _⟩ | ⟨g', cap', cur, hv, hb, hg, _⟩
    · cases h
    · cases hv
      simp [World.frozen?, hg]
theorem e_owns_cell {w : World} {B sz g n cap : Nat} {t : TypeId} {C : List Value} (h : w.ownsRow B t sz (.slice (some ⟨g, 0, none⟩) n cap) n C) (j : Nat) (u : Value) :
    (w.setCell ⟨g, j, none⟩ u).ownsRow B t sz (.slice (some ⟨g, 0, none⟩) n cap) n (C.set j u) := by
  obtain ⟨h1, h2⟩ := h
  rcases h2 with ⟨h, _⟩ | ⟨g', cap', cur, hv, hb, hg, k1, k2, k3, k4⟩
  · cases h
  · cases hv
    refine ⟨by rw [List.length_set]; exact h1, .inr ⟨g, cap, cur.setIfInBounds j u, rfl, hb, ?_, k1, k2, by simpa using k3, ?_⟩⟩
    · rw [setCell_eq_setRow w g j cur t (0, 0) u hg]
      exact setRow_heap w g cur _ t (0, 0) hg
    · rw [Array.toList_setIfInBounds, List.take_set, k4]
theorem ents_moved {L : List Ent} {k : Nat} {y : Ent} (h : L[k]? = some y) (tz to m : Int) : ents (L.set k (moved y tz to m)) = (((ents L).set (k * 6 + 4) (.int .i64 tz)).set (k * 6 + 5) (.int .i64 to)).set (k * 6 + 3) (.int .i64 m) := by
  induction L generalizing k with
  | nil => cases h
  | cons x L ih =>
    cases k with
    | zero =>
      obtain rfl := Option.some.inj h
      simp [ents_cons, entC, moved]
    | succ k =>
      have hs : ∀ (M : List Value) j u, (entC x ++ M).set (j + 6) u = entC x ++ M.set j u := fun M j u => by simp [entC]
      rw [List.set_cons_succ, ents_cons, ents_cons, ih h]
      rw [show (k + 1) * 6 + 4 = (k * 6 + 4) + 6 by omega, hs, show (k + 1) * 6 + 5 = (k * 6 + 5) + 6 by omega, hs, show (k + 1) * 6 + 3 = (k * 6 + 3) + 6 by omega, hs]
theorem place_row {w : World} {g : Nat} {a b : Value} {t : TypeId} {fr : Nat × Nat} (h : w.heap[g]? = some (.cells #[a, b] t fr)) : w.cell? ⟨g, 0, none⟩ = some a ∧ w.cell? ⟨g, 1, none⟩ = some b := ⟨cell_of_row _ _ 0 _ _ _ h, cell_of_row _ _ 1 _ _ _ h⟩
end Go.Proofs.Ytljdepnhhngbeaa.Ents
