
/- Appends to a list of entries that the call owns: a list, one entry; in a walk and in a region that draws its order. -/
import Derived.Test.YtljdepnhhngbeaaEntFind
import Derived.Laws.AppendOwn
import Derived.Laws.AppendOwnNone
namespace Go.Proofs.Ytljdepnhhngbeaa.Ents
open Go.RowKit Plan EntMath
theorem e_grown (w : World) (r : Option Nat) : w.grownBy w r := ⟨rfl, rfl, rfl, Nat.le_refl _, fun _ _ _ => rfl⟩
theorem EList.news {w : World} {F : Nat → Prop} {ad : Addr} {len cap : Nat} {L : List Ent} (h : EList w F (some ad) len cap L) : ∀ j u, (ents L)[j]? = some u → w.cell? (ad.add j) = some u := by
  rcases h with ⟨_, _, _, rfl⟩ | ⟨x, h1, _, _, _, _, _, h7⟩
  · intro j u hu
    simp [ents] at hu
  · obtain rfl := Option.some.inj h1
    exact h7
theorem EList.none {w : World} {F : Nat → Prop} {len cap : Nat} {L : List Ent} (h : EList w F none len cap L) : len = 0 ∧ cap = 0 ∧ L = [] := by
  rcases h with ⟨_, h⟩ | ⟨x, h1, _⟩
  · exact h
  · cases h1
end Go.Proofs.Ytljdepnhhngbeaa.Ents
