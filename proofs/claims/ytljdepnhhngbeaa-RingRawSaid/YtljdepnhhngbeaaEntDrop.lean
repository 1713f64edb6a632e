
/- The walks of the document's Drop and Same. -/
import Derived.Test.YtljdepnhhngbeaaEntReloc
namespace Go.Proofs.Ytljdepnhhngbeaa.Ents
open Go.RowKit Plan EntMath
/-- what Drop leaves -/
def DropPost (w : World) (F : Nat → Prop) (L M : List Ent) (r : Ending) (w' : World) : Prop :=
  ∃ a n c b m d, r = .returned (.tuple #[.slice a n c, .slice b m d]) ∧ EList w' (Plus F w.heap.size) a n c L ∧ EList w' (Plus F w.heap.size) b m d M ∧ Below w.heap.size w w'
theorem take_next {L : List Ent} {j : Nat} {e : Ent} (h : L[j]? = some e) : L.take (j + 1) = L.take j ++ [e] := by
  rw [List.take_add_one, h]
  rfl
theorem filter_next {L : List Ent} {j : Nat} {e : Ent} (h : L[j]? = some e) (p : Ent → Bool) : (L.take (j + 1)).filter p = (L.take j).filter p ++ (if p e = true then [e] else []) := by
  rw [take_next h, List.filter_append]
  congr 1
  simp only [List.filter_cons, List.filter_nil]
/-- two lists of the call's own in different blocks -/
def Apart (v u : Value) : Prop := ∀ b, v.ownBlock = some b → u.ownBlock = some b → False
theorem Apart.symm {v u : Value} (h : Apart v u) : Apart u v := fun b h1 h2 => h b h2 h1
theorem owns_apart {w w' : World} {B sz n : Nat} {t : TypeId} {v u : Value} {xs : List Value} (h : w.ownsRow B t sz v n xs) (hap : Apart v u) (hg : w.grownBy w' u.ownBlock) : w'.ownsRow B t sz v n xs := by
  refine h.kept hg ?_
  cases hv : v.ownBlock with
  | none => exact .inl rfl
  | some b => exact .inr (fun e => hap b hv e.symm)
theorem apart_next {w : World} {B sz n n' c' g H : Nat} {t : TypeId} {v u : Value} {xs : List Value} (hv : w.ownsRow B t sz v n xs) (hap : Apart v u) (hat : u.ownBlock = some g ∨ g = H) (hH : w.heap.size ≤ H) : Apart v (.slice (some ⟨g, 0, none⟩) n' c') := by
  intro b hb hb2
  have e : g = b := Option.some.inj (show some g = some b from hb2)
  subst e
  rcases hat with h | h
  · exact hap _ hb h
  · have := (hv.lt g hb).2
    omega
end Go.Proofs.Ytljdepnhhngbeaa.Ents
