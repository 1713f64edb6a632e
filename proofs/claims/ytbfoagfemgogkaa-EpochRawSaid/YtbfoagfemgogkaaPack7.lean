/- Texts that belong together, part 7. -/
import Derived.Test.YtbfoagfemgogkaaPack6

/- The walks of the document's entry, place and Valid. -/
namespace Go.Proofs.Ytbfoagfemgogkaa.Ents
open Go.RowKit Plan EntMath
theorem ok_iff {e : Ent} : okE e = true ↔ (e.kind = 1 ∨ e.kind = 2) ∧ 1 ≤ e.version ∧ e.version ≤ 1099511627776 ∧ 0 ≤ e.move ∧ e.move ≤ 255 ∧ 0 ≤ e.block ∧ 0 ≤ e.zone ∧ 0 ≤ e.offset := by
  simp [okE, Bool.and_eq_true, and_assoc]
theorem ok_not {e : Ent} (h : ¬ ((e.kind = 1 ∨ e.kind = 2) ∧ 1 ≤ e.version ∧ e.version ≤ 1099511627776 ∧ 0 ≤ e.move ∧ e.move ≤ 255 ∧ 0 ≤ e.block ∧ 0 ≤ e.zone ∧ 0 ≤ e.offset)) : okE e = false := by
  cases hE : okE e
  · rfl
  · exact absurd (ok_iff.1 hE) h
theorem e_dec {E : Bool} {p : Prop} [Decidable p] (h1 : p → E = true) (h2 : ¬ p → E = false) : decide p = E := by
  by_cases h : p
  · rw [decide_eq_true h, h1 h]
  · rw [decide_eq_false h, h2 h]
end Go.Proofs.Ytbfoagfemgogkaa.Ents

/- The walk of the document's Valid. -/
namespace Go.Proofs.Ytbfoagfemgogkaa.Ents
open Go.RowKit Plan EntMath
theorem EntAt.kept {w w' : World} {x : Addr} {i : Nat} {e : Ent} (h : EntAt w x i e) (hb : Below w.heap.size w w') (hx : x.block < w.heap.size) : EntAt w' x i e := by
  have hc : ∀ y : Addr, y.block = x.block → w'.cell? y = w.cell? y := fun y hy => hb.cell (by rw [hy]; exact hx)
  obtain ⟨h0, h1, h2, h3, h4, h5⟩ := h
  have hB : (x.add (i * 6)).block = x.block := ent_add_block x _
  exact ⟨(hc _ hB).trans h0, (hc ⟨(x.add (i * 6)).block, (x.add (i * 6)).off + 1, none⟩ hB).trans h1, (hc ⟨(x.add (i * 6)).block, (x.add (i * 6)).off + 2, none⟩ hB).trans h2, (hc ⟨(x.add (i * 6)).block, (x.add (i * 6)).off + 3, none⟩ hB).trans h3, (hc ⟨(x.add (i * 6)).block, (x.add (i * 6)).off + 4, none⟩ hB).trans h4, (hc ⟨(x.add (i * 6)).block, (x.add (i * 6)).off + 5, none⟩ hB).trans h5⟩
theorem EntAt.lt {w : World} {x : Addr} {i : Nat} {e : Ent} (h : EntAt w x i e) : x.block < w.heap.size := by
  have := World.block_lt_of_cell? w _ h.1
  rwa [ent_add_block] at this
theorem valid_no {L : List Ent} {i : Nat} {e : Ent} (he : L[i]? = some e) (h : okAt L i = false) : validB L = false := by
  cases hv : validB L
  · rfl
  · rw [valid_at hv he] at h; cases h
theorem valid_all {L : List Ent} (h : ∀ i, i < L.length → okAt L i = true) : validB L = true := List.all_eq_true.2 fun i hi => h i (List.mem_range.1 hi)
end Go.Proofs.Ytbfoagfemgogkaa.Ents

/- The walk of the document's Find. -/
namespace Go.Proofs.Ytbfoagfemgogkaa.Ents
open Go.RowKit Plan EntMath
/-- what Find gives -/
def findV (L : List Ent) (b : Int) : Value := .tuple #[entV ((findE L b).getD zeroE), .bool (findE L b).isSome]
theorem findV_none {L : List Ent} {b : Int} (h : findE L b = none) : findV L b = .tuple #[.agg #[.int .i64 0, .int .i64 0, .int .i64 0, .int .i64 0, .int .i64 0, .int .i64 0], .bool false] := by unfold findV; rw [h]; rfl
theorem findV_some {L : List Ent} {b : Int} {e : Ent} (h : findE L b = some e) : findV L b = .tuple #[entV e, .bool true] := by unfold findV; rw [h]; rfl
theorem find_invalid {L : List Ent} {b : Int} (h : validB L = false) : findE L b = none := by unfold findE; rw [if_neg (by rw [h]; decide)]
theorem find_at {L : List Ent} {b : Int} (h : validB L = true) {e : Ent} (he : L[place L b]? = some e) : findE L b = if e.block = b then some e else none := by
  unfold findE
  rw [if_pos h, look_place (valid_iff.1 h).2, he]
theorem find_past {L : List Ent} {b : Int} (h : validB L = true) (he : L.length ≤ place L b) : findE L b = none := by
  unfold findE
  rw [if_pos h, look_place (valid_iff.1 h).2, List.getElem?_eq_none he]
end Go.Proofs.Ytbfoagfemgogkaa.Ents
