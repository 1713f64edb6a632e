/- Texts that belong together, part 12. -/
import Derived.Test.YtbfoagfemgogkaaPack11

/- Locks in memory; the walks of the document's Valid, Free, set, Take, Give of locks. -/
namespace Go.Proofs.Ytbfoagfemgogkaa.Ents
open Go.RowKit Plan EntMath CntMath LckMath
abbrev lckV (a : Option Addr) (n c : Nat) : Value := .agg #[.slice a n c]
theorem one_row {w : World} {g : Nat} {a : Value} {t : TypeId} {fr : Nat × Nat} (h : w.heap[g]? = some (.cells #[a] t fr)) : w.cell? ⟨g, 0, none⟩ = some a := cell_of_row _ _ 0 _ _ _ h
end Go.Proofs.Ytbfoagfemgogkaa.Ents

/- The walks of the document's Free, set, Take, Give of locks. -/
namespace Go.Proofs.Ytbfoagfemgogkaa.Ents
open Go.RowKit Plan EntMath CntMath LckMath
theorem lck_at {w : World} {F : Nat → Prop} {O : List Int} {s : Int} {a : Option Addr} {n c : Nat} (hl : IList w F a n c O) (h : inK O s = true) : ∃ k : Nat, s = (k : Int) ∧ k < n ∧ n ≤ 8 ∧ ∃ x z, a = some x ∧ O[k]? = some z ∧ w.cell? (x.add k) = some (.int .i64 z) := by
  obtain ⟨hv, h0, h1⟩ := in_k.1 h
  have hvv := valid_k.1 hv
  have hln := hl.length
  obtain ⟨k, rfl⟩ : ∃ k : Nat, s = (k : Int) := ⟨s.toNat, by omega⟩
  have hk : k < n := by omega
  obtain ⟨x, z, hx, hz, hc⟩ := hl.at' k hk
  exact ⟨k, rfl, hk, by omega, x, z, hx, hz, hc⟩
theorem in_three {O : List Int} {s : Int} {n : Nat} (hn : O.length = n) (h : inK O s = false) : validK O = false ∨ (validK O = true ∧ s < 0) ∨ (validK O = true ∧ 0 ≤ s ∧ (n : Int) ≤ s) := by
  cases hv : validK O
  · exact .inl rfl
  · by_cases h0 : 0 ≤ s
    · by_cases h1 : (n : Int) ≤ s
      · exact .inr (.inr ⟨rfl, h0, h1⟩)
      · rw [in_k.2 ⟨hv, h0, by omega⟩] at h
        cases h
    · exact .inr (.inl ⟨rfl, by omega⟩)
end Go.Proofs.Ytbfoagfemgogkaa.Ents

/- The walks of the document's Take and Give of locks. -/
namespace Go.Proofs.Ytbfoagfemgogkaa.Ents
open Go.RowKit Plan EntMath CntMath LckMath
/-- what a function that changes locks leaves -/
def LckPost (w : World) (F : Nat → Prop) (O : List Int) (B : Bool) (r : Ending) (w' : World) : Prop :=
  ∃ a n c, r = .returned (.tuple #[lckV a n c, .bool B]) ∧ IList w' (Plus F w.heap.size) a n c O ∧ Below w.heap.size w w'
end Go.Proofs.Ytbfoagfemgogkaa.Ents
