
/- Locks of stripes, and what layer 11 of the document says of them. Plain mathematics. -/
import Derived.Test.YtoclcefnecghfaaCntMath
namespace Go.Proofs.Ytoclcefnecghfaa.LckMath
def validK (O : List Int) : Bool := (O.all fun z => decide (-1 ≤ z)) && decide (1 ≤ O.length) && decide (O.length ≤ 8)
def inK (O : List Int) (s : Int) : Bool := validK O && decide (0 ≤ s) && decide (s < (O.length : Int))
def freeK (O : List Int) (s : Int) : Bool := inK O s && decide (O.getD s.toNat 0 = -1)
def takeB (O : List Int) (s t : Int) : Bool := freeK O s && decide (0 ≤ t)
def takeL (O : List Int) (s t : Int) : List Int := if takeB O s t = true then O.set s.toNat t else O
def giveB (O : List Int) (s t : Int) : Bool := inK O s && decide (0 ≤ t) && decide (O.getD s.toNat 0 = t)
def giveL (O : List Int) (s t : Int) : List Int := if giveB O s t = true then O.set s.toNat (-1) else O
/-- the stripes below k that a thread holds -/
def heldTo (O : List Int) (t : Int) (k : Nat) : List Int := ((List.range k).filter fun i : Nat => decide (O.getD i 0 = t)).map (fun i : Nat => (i : Int))
def heldL (O : List Int) (t : Int) : List Int := if 0 ≤ t then heldTo O t O.length else []
def newK (s : Int) : List Int := if 1 ≤ s ∧ s ≤ 8 then List.replicate s.toNat (-1) else []
def newKE (s : Int) : Int := if 1 ≤ s ∧ s ≤ 8 then 0 else 1
theorem valid_k {O : List Int} : validK O = true ↔ (∀ z ∈ O, -1 ≤ z) ∧ 1 ≤ O.length ∧ O.length ≤ 8 := by
  unfold validK
  simp only [Bool.and_eq_true, decide_eq_true_eq, List.all_eq_true, and_assoc]
theorem k_bad {O : List Int} {j : Nat} {z : Int} (hz : O[j]? = some z) (h : ¬ -1 ≤ z) : validK O = false := by
  cases hv : validK O
  · rfl
  · exact absurd ((valid_k.1 hv).1 z (List.mem_of_getElem? hz)) h
theorem k_all {O : List Int} (h : ∀ j : Nat, j < O.length → ∀ z, O[j]? = some z → -1 ≤ z) : validK O = (decide (1 ≤ O.length) && decide (O.length ≤ 8)) := by
  have h1 : (O.all fun z => decide (-1 ≤ z)) = true := List.all_eq_true.2 fun z hz => by
    obtain ⟨j, hj⟩ := List.mem_iff_getElem?.1 hz
    exact decide_eq_true (h j (List.getElem?_eq_some_iff.1 hj).1 z hj)
  unfold validK
  rw [h1, Bool.true_and]
theorem held_next {O : List Int} {t z : Int} {i : Nat} (h : O[i]? = some z) : heldTo O t (i + 1) = heldTo O t i ++ if z = t then [(i : Int)] else [] := by
  unfold heldTo
  rw [List.range_succ, List.filter_append, List.map_append]
  congr 1
  rw [List.filter_cons, CntMath.getD_at h]
  by_cases hz : z = t <;> simp [hz]
theorem held_len (O : List Int) (t : Int) (k : Nat) : (heldTo O t k).length ≤ k := by
  unfold heldTo
  rw [List.length_map]
  exact Nat.le_trans (List.length_filter_le _ _) (by simp)
theorem in_k {O : List Int} {s : Int} : inK O s = true ↔ validK O = true ∧ 0 ≤ s ∧ s < (O.length : Int) := by
  unfold inK
  simp only [Bool.and_eq_true, decide_eq_true_eq, and_assoc]
end Go.Proofs.Ytoclcefnecghfaa.LckMath
