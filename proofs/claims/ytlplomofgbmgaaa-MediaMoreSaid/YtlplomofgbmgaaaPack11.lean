/- Texts that belong together, part 11. -/
import Derived.Test.YtlplomofgbmgaaaPack10

/- The walks of the program's online, Reset, Finish, Close, Read. -/
namespace Go.Proofs.Ytlplomofgbmgaaa
open Go.RowKit Plan ZnsMath

theorem begin_cases {D : Dev} {k : Int} (h : beginE D k ≠ 0) : zoneE D k ≠ 0 ∧ beginE D k = zoneE D k ∨ beginE D k = 6 ∧ ∃ i : Nat, k = (i : Int) ∧ i < D.zones.length ∧ checkE D = 0 ∧ stateAt D k = 5 := by
  unfold beginE at h ⊢
  by_cases h1 : zoneE D k ≠ 0
  · exact .inl ⟨h1, by rw [if_pos h1]⟩
  · rw [if_neg h1] at h ⊢
    have h3 := zoneE_of (show zoneE D k = 0 by omega)
    by_cases h4 : stateAt D k = 5
    · exact .inr ⟨by rw [if_pos h4], k.toNat, by omega, by omega, h3.1, h4⟩
    · rw [if_neg h4] at h; exact absurd rfl h
end Go.Proofs.Ytlplomofgbmgaaa

/- The walks of the program's Finish, Close, Read, New. -/
namespace Go.Proofs.Ytlplomofgbmgaaa
open Go.RowKit Plan ZnsMath

theorem withZ_same {D : Dev} {i : Nat} {z : Zone} (h : D.zones[i]? = some z) : withZ D i z = D := by
  have : D.zones.set i z = D.zones := by
    obtain ⟨hi, e⟩ := List.getElem?_eq_some_iff.1 h
    subst e
    exact List.set_getElem_self hi
  unfold withZ
  rw [this]
end Go.Proofs.Ytlplomofgbmgaaa

/- The walk of the program's search for an open zone, and of making room. -/
namespace Go.Proofs.Ytlplomofgbmgaaa
open Go.RowKit Plan ZnsMath

end Go.Proofs.Ytlplomofgbmgaaa

/- The walks of the program's admit and Open. -/
namespace Go.Proofs.Ytlplomofgbmgaaa
open Go.RowKit Plan ZnsMath

/-- what admit answers -/
def admE (D : Dev) (i : Nat) : Int := if stateAt D (i : Int) = 5 then 6 else if stateAt D (i : Int) = 4 then 7 else if openB (stateAt D (i : Int)) = true then 0 else roomE D i
def admR (D : Dev) (i : Nat) : Dev := if stateAt D (i : Int) = 5 then D else if stateAt D (i : Int) = 4 then D else if openB (stateAt D (i : Int)) = true then D else roomR D i
/-- making room leaves the zone for which it is made -/
theorem ready_at {D : Dev} {i : Nat} {z : Zone} (h : D.zones[i]? = some z) : (ready D (i : Int)).zones[i]? = some z := by
  unfold ready
  rw [stateAt_of h]
  cases ho : openB z.state with
  | true => rw [if_pos rfl]; exact h
  | false =>
    rw [if_neg (by decide), Int.toNat_natCast]
    unfold roomR
    split
    · unfold cleared
      split
      · unfold withZ
        by_cases hf : firstOpen D.zones = i
        · have := first_eq D.zones z (by rw [hf]; exact h)
          rw [this] at ho
          cases ho
        · simp only [List.getElem?_set_ne hf]
          exact h
      · exact h
    · exact h
theorem ready_size (D : Dev) (k : Int) : (ready D k).size = D.size := by
  unfold ready
  split
  · rfl
  · unfold roomR
    split
    · unfold cleared
      split <;> rfl
    · rfl
theorem admR_ready {D : Dev} {i : Nat} (h : admE D i = 0) : admR D i = ready D (i : Int) := by
  unfold admE at h
  unfold admR ready
  by_cases h5 : stateAt D (i : Int) = 5
  · rw [if_pos h5] at h; cases h
  · rw [if_neg h5] at h ⊢
    by_cases h4 : stateAt D (i : Int) = 4
    · rw [if_pos h4] at h; cases h
    · rw [if_neg h4, Int.toNat_natCast]
end Go.Proofs.Ytlplomofgbmgaaa

/- The walk of the program's Open. -/
namespace Go.Proofs.Ytlplomofgbmgaaa
open Go.RowKit Plan ZnsMath

end Go.Proofs.Ytlplomofgbmgaaa

/- The walk of the program's grown: a zone with one sector more. -/
namespace Go.Proofs.Ytlplomofgbmgaaa
open Go.RowKit Plan ZnsMath

end Go.Proofs.Ytlplomofgbmgaaa

/- The walk of the program's Append. -/
namespace Go.Proofs.Ytlplomofgbmgaaa
open Go.RowKit Plan ZnsMath

theorem appended_sectors (z : Zone) (s : ByteArray) (size : Int) : (appended z s size).sectors = z.sectors ++ [s] := by
  unfold appended
  split <;> rfl
end Go.Proofs.Ytlplomofgbmgaaa
