
/- Entries, places and lists of entries that come in. -/
import Derived.Test.YtljdepnhhngbeaaEntIs
import Derived.OpenShut
import Derived.ShutString
import Derived.ChangeArms
import Derived.ProofKit
namespace Go.Proofs.Ytljdepnhhngbeaa.Ents
open Go.ChangeShapes Go.WideShapes Go.RowKit EntMath
set_option maxRecDepth 20000 in
theorem ent_cells_int : Try.prog.cellsOf 3 = 1 := by kernel_rfl
set_option maxRecDepth 20000 in
theorem ent_some {α : Type} {l : List α} {i n : Nat} (hl : l.length = n) (hi : i < n) : ∃ y, l[i]? = some y := ⟨l[i]'(by omega), List.getElem?_eq_getElem (by omega)⟩
section
variable {H : Type} {enc : TypeId × Value → H} {w : World} {base : Nat} {spare : Nat → Bool} {held : Bool}
set_option maxRecDepth 20000 in
/-- the block of a slice that came in -/
theorem ent_slice_in {w : World} {r : Reach} {b0 : Nat} {u : TypeId} {a : Addr} {len cap : Nat} (h : Cell.okWide Try.prog w r b0 u (.slice (some a) len cap)) : a.block < w.heap.size := by
  have hs : (∃ row cells, w.shape? a.block = some (row, cells)) → a.block < w.heap.size := by
    rintro ⟨row, cells, h⟩
    unfold World.shape? at h
    rcases Nat.lt_or_ge a.block w.heap.size with hl | hl
    · exact hl
    · rw [Array.getElem?_eq_none hl] at h
      cases h
  unfold Cell.okWide at h
  split at h
  all_goals first
    | (rename_i hv; cases hv; done)
    | (rename_i hu hv; cases hv; done)
    | skip
  unfold Cell.ok at h
  split at h
  all_goals first
    | (rename_i hv; cases hv; done)
    | (rename_i hu hv; cases hv; done)
    | exact h.elim
    | skip
  rename_i hv
  cases hv
  obtain ⟨_, _, _, _, row, cells, hsh, _⟩ := h
  exact hs ⟨row, cells, hsh⟩
end
end Go.Proofs.Ytljdepnhhngbeaa.Ents
