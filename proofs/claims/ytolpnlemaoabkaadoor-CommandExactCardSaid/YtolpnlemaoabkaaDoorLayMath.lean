
/- Configurations and layouts as numbers: what layer 7 of the document says of them. Plain mathematics. -/
namespace Go.Proofs.YtolpnlemaoabkaaDoor.LayMath
/-- are the six numbers in their ranges -/
def inR (z s b q d h : Int) : Bool :=
  decide (3 ≤ s) && decide (s ≤ 64) && decide (1 ≤ z) && decide (z ≤ 32) && decide (1 ≤ b) && decide (b ≤ 128) &&
    decide (1 ≤ q) && decide (q ≤ 4) && decide (1 ≤ d) && decide (d ≤ 8) && decide (1 ≤ h) && decide (h ≤ 8)
/-- the zones of a slot -/
def slotN (s b : Int) : Int := (b + 2 + s - 1) / s
/-- the data zones -/
def dataN (z s b : Int) : Int := z - 2 * slotN s b
/-- the capacity -/
def capN (z s b q : Int) : Int := (dataN z s b - 3) * (s - 1) - q - 1
/-- is there enough for data -/
def fits (z s b q : Int) : Bool := !(decide (dataN z s b < 6) || decide (capN z s b q < 1))
/-- the error of a configuration -/
def errN (z s b q d h : Int) : Int := if inR z s b q d h = true then (if fits z s b q = true then 0 else 11) else 1
theorem errN_out {z s b q d h : Int} (hr : inR z s b q d h = false) : errN z s b q d h = 1 := by simp [errN, hr]
theorem errN_tight {z s b q d h : Int} (hr : inR z s b q d h = true) (hf : fits z s b q = false) : errN z s b q d h = 11 := by simp [errN, hr, hf]
theorem errN_fit {z s b q d h : Int} (hr : inR z s b q d h = true) (hf : fits z s b q = true) : errN z s b q d h = 0 := by simp [errN, hr, hf]
theorem errN_zero {z s b q d h : Int} (he : errN z s b q d h = 0) : inR z s b q d h = true ∧ fits z s b q = true := by
  unfold errN at he
  split at he
  · split at he
    · exact ⟨by assumption, by assumption⟩
    · cases he
  · cases he
theorem inR_iff {z s b q d h : Int} : inR z s b q d h = true ↔ 3 ≤ s ∧ s ≤ 64 ∧ 1 ≤ z ∧ z ≤ 32 ∧ 1 ≤ b ∧ b ≤ 128 ∧ 1 ≤ q ∧ q ≤ 4 ∧ 1 ≤ d ∧ d ≤ 8 ∧ 1 ≤ h ∧ h ≤ 8 := by
  simp [inR, Bool.and_eq_true, and_assoc]
theorem inR_not {z s b q d h : Int} (hn : ¬ (3 ≤ s ∧ s ≤ 64 ∧ 1 ≤ z ∧ z ≤ 32 ∧ 1 ≤ b ∧ b ≤ 128 ∧ 1 ≤ q ∧ q ≤ 4 ∧ 1 ≤ d ∧ d ≤ 8 ∧ 1 ≤ h ∧ h ≤ 8)) : inR z s b q d h = false := by
  cases hE : inR z s b q d h
  · rfl
  · exact absurd (inR_iff.1 hE) hn
theorem slot_bounds {s b : Int} (hs : 3 ≤ s) (h2 : s ≤ 64) (hb : 1 ≤ b) (hb2 : b ≤ 128) : 1 ≤ slotN s b ∧ slotN s b ≤ 64 := by
  unfold slotN
  constructor
  · exact (Int.le_ediv_iff_mul_le (by omega)).2 (by omega)
  · have h1 : (b + 2 + s - 1) / s < 65 := (Int.ediv_lt_iff_lt_mul (by omega)).2 (by omega)
    omega
theorem cap_bounds {z s b : Int} (hs : 3 ≤ s) (h2 : s ≤ 64) (hb : 1 ≤ b) (hb2 : b ≤ 128) (hz : 1 ≤ z) (hz2 : z ≤ 32) :
    (-130 ≤ dataN z s b - 3 ∧ dataN z s b - 3 ≤ 29) ∧ (-8190 ≤ (dataN z s b - 3) * (s - 1) ∧ (dataN z s b - 3) * (s - 1) ≤ 1827) := by
  obtain ⟨l1, l2⟩ := slot_bounds hs h2 hb hb2
  unfold dataN
  generalize slotN s b = k at l1 l2 ⊢
  refine ⟨by omega, ?_⟩
  have h1 : (z - 2 * k - 3) * (s - 1) ≤ 29 * (s - 1) := Int.mul_le_mul_of_nonneg_right (by omega) (by omega)
  have h3 : -130 * (s - 1) ≤ (z - 2 * k - 3) * (s - 1) := Int.mul_le_mul_of_nonneg_right (by omega) (by omega)
  omega
theorem slot_room {s b : Int} (hs : 3 ≤ s) : b + 2 ≤ slotN s b * s := by
  unfold slotN
  have h1 := Int.ediv_mul_add_emod (b + 2 + s - 1) s
  have h2 := Int.emod_lt_of_pos (b + 2 + s - 1) (b := s) (by omega)
  have h3 := Int.emod_nonneg (b + 2 + s - 1) (b := s) (by omega)
  omega
/-- the numbers P, P + 1, .. -/
def upto (P : Int) (n : Nat) : List Int := (List.range n).map fun (i : Nat) => P + (i : Int)
/-- the zones of a slot, as a list -/
def slotsL (z s b q d h k : Int) : List Int := if errN z s b q d h = 0 ∧ (k = 0 ∨ k = 1) then upto (k * slotN s b) (slotN s b).toNat else []
theorem slotsL_no {z s b q d h k : Int} (hk : ¬ errN z s b q d h = 0 ∨ ¬ (k = 0 ∨ k = 1)) : slotsL z s b q d h k = [] := by
  unfold slotsL; rw [if_neg (fun h => hk.elim (fun e => e h.1) (fun e => e h.2))]
theorem slotsL_yes {z s b q d h k : Int} {n : Nat} (he : errN z s b q d h = 0) (hk : k = 0 ∨ k = 1) (hn : slotN s b = n) : slotsL z s b q d h k = upto (k * (n : Int)) n := by
  unfold slotsL; rw [if_pos ⟨he, hk⟩, hn, Int.toNat_natCast]
end Go.Proofs.YtolpnlemaoabkaaDoor.LayMath
