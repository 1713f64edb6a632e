
/- The walk of the document's Valid. -/
import Derived.Test.YtljdepnhhngbeaaEntOk
namespace Go.Proofs.Ytljdepnhhngbeaa.Ents
open Go.RowKit Plan EntMath
theorem EntAt.kept {w w' : World} {x : Addr} {i : Nat} {e : Ent} (h : EntAt w x i e) (hb : Below w.heap.size w w') (hx : x.block < w.heap.size) : EntAt w' x i e := by
  have hc : ∀ y : Addr, y.block = x.block → w'.cell? y = w.cell? y := fun y hy => hb.cell (by rw [hy]; exact hx)
  obtain ⟨h0, h1, h2, h3, h4, h5⟩ := h
  have hB : (x.add (i * 6)).block = x.block := ent_add_block x _
  exact ⟨(hc _ hB).trans h0, (hc ⟨(x.add (i * 6)).block, (x.add (i * 6)).off + 1, none⟩ hB).trans h1, (hc ⟨(x.add (i * 6)).block, (x.add (i * 6)).off + 2, none⟩ hB).trans h2, (hc ⟨(x.add (i * 6)).block, (x.add (i * 6)).off + 3, none⟩ hB).trans h3, (hc ⟨(x.add (i * 6)).block, (x.add (i * 6)).off + 4, none⟩ hB).trans h4, (hc ⟨(x.add (i * 6)).block, (x.add (i * 6)).off + 5, none⟩ hB).trans h5⟩
theorem EntAt.lt {w : World} {x : Addr} {i : Nat} {e : Ent} (h : EntAt w x i e) : x.block < w.heap.size := by
  have := World.block_lt_of_cell? w _ h.1
  rwa [ent_add_block] at this
theorem valid_no {L : List Ent} {i : Nat} {e : Ent} (he : L[i]? = some e) (h : okAt L i = false) : validB L = false := by
  cases hv : validB L
  · rfl
  · rw [valid_at hv he] at h; cases h
theorem valid_all {L : List Ent} (h : ∀ i, i < L.length → okAt L i = true) : validB L = true := List.all_eq_true.2 fun i hi => h i (List.mem_range.1 hi)
end Go.Proofs.Ytljdepnhhngbeaa.Ents
