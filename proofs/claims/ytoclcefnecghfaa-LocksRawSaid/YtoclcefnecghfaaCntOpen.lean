
/- Counters that come in. -/
import Derived.Test.YtoclcefnecghfaaCntIs
import Derived.Test.YtoclcefnecghfaaEntOpen
import Derived.Test.YtoclcefnecghfaaMakeDice
namespace Go.Proofs.Ytoclcefnecghfaa.Ents
open Go.ChangeShapes Go.WideShapes Go.RowKit EntMath CntMath
set_option maxRecDepth 20000 in
theorem cnt_cells_ints : Try.prog.cellsOf 22 = 1 := by kernel_rfl
theorem row_list {w : World} {a : Option Addr} {l c : Nat} {zs : List Int} (h : IsRow .i64 w a l c zs) : IList w (fun b => b < w.heap.size) a l c (zs.take l) := by
  rcases h with ⟨rfl, rfl, rfl, rfl⟩ | ⟨x, rfl, h1, h2, h3, h4, _⟩
  · exact .inl ⟨trivial, rfl, rfl, rfl⟩
  · by_cases hc : c = 0
    · subst hc
      obtain rfl : l = 0 := by omega
      exact .inl ⟨trivial, rfl, rfl, rfl⟩
    · have hb : x.block < w.heap.size := by
        have := World.block_lt_of_cell? w _ (h4 0 (by omega))
        rwa [ent_add_block] at this
      refine .inr ⟨x, rfl, h1, h2, by rw [List.length_take]; omega, hb, hb, fun j z hz => ?_⟩
      rw [List.getElem?_take] at hz
      split at hz
      · have hlt := (List.getElem?_eq_some_iff.1 hz).1
        rw [h4 j hlt, List.getD_eq_getElem?_getD, hz]
        rfl
      · cases hz
section
variable {H : Type} {enc : TypeId × Value → H} {w : World} {base : Nat} {spare : Nat → Bool}
set_option maxRecDepth 20000 in
theorem trod_ilist (hs : ∀ b, spare b = true) {fuel : Nat} {v : Value} {x : DataW H × List MemPlace} (h : DataW.trod enc Try.prog w base spare true fuel 22 [v] = some x) : ∃ a n c Z, v = .slice a n c ∧ IList w (fun b => b < w.heap.size) a n c Z := by
  rcases open_ints Try.underlying22 Try.underlying3 (by kernel_rfl) h with ⟨hcs, _⟩ | ⟨x, l, c, zs, hcs, _, hl, hm, hz, _, hcell, hwz⟩
  · simp at hcs
    exact ⟨_, _, _, [], hcs, .inl ⟨trivial, rfl, rfl, rfl⟩⟩
  · simp at hcs
    exact ⟨_, _, _, _, hcs, row_list (.inr ⟨_, rfl, hl, hm, by simpa [hs] using hz, hcell, hwz⟩)⟩
end
end Go.Proofs.Ytoclcefnecghfaa.Ents
