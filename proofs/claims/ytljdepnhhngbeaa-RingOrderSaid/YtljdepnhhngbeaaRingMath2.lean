
/- Rings: what stays true of them when requests are taken and submitted. Plain mathematics. -/
import Derived.Test.YtljdepnhhngbeaaRingMath
namespace Go.Proofs.Ytljdepnhhngbeaa.RingMath
theorem asc_iff {L : List Rq} {i : Nat} {x : Rq} (hx : L[i]? = some x) : ascG L i = true ↔ 0 ≤ x.serial ∧ ∀ (j : Nat) (y : Rq), i = j + 1 → L[j]? = some y → y.serial < x.serial := by
  unfold ascG
  rw [hx]
  simp only [Bool.and_eq_true, decide_eq_true_eq]
  cases i with
  | zero => exact ⟨fun h => ⟨h.1, fun j y h1 => by omega⟩, fun h => ⟨h.1, rfl⟩⟩
  | succ k =>
    simp only
    cases hy : L[k]? with
    | none => exact ⟨fun h => ⟨h.1, fun j y h1 h2 => by obtain rfl : k = j := (by omega); rw [hy] at h2; cases h2⟩, fun h => ⟨h.1, rfl⟩⟩
    | some y =>
      simp only [decide_eq_true_eq]
      exact ⟨fun h => ⟨h.1, fun j z h1 h2 => by obtain rfl : k = j := (by omega); rw [hy] at h2; obtain rfl := Option.some.inj h2; exact h.2⟩, fun h => ⟨h.1, h.2 k y rfl hy⟩⟩
theorem valid_iff {d : Int} {L : List Rq} : validG d L = true ↔ (1 ≤ d ∧ d ≤ 8) ∧ (L.length : Int) ≤ d ∧ ∀ (i : Nat) (x : Rq), L[i]? = some x → 0 ≤ x.serial ∧ ∀ (j : Nat) (y : Rq), i = j + 1 → L[j]? = some y → y.serial < x.serial := by
  constructor
  · intro h
    have h1 := valid_len h
    refine ⟨h1.1, h1.2, fun i x hx => (asc_iff hx).1 ?_⟩
    unfold validG at h
    simp only [Bool.and_eq_true, List.all_eq_true] at h
    exact h.2 i (List.mem_range.2 (List.getElem?_eq_some_iff.1 hx).1)
  · intro h
    refine valid_yes h.1.1 h.1.2 h.2.1 fun i hi => ?_
    have hx : L[i]? = some L[i] := List.getElem?_eq_getElem hi
    exact (asc_iff hx).2 (h.2.2 i _ hx)
theorem take_is {d : Int} {L : List Rq} (h : validG d L = true) : takeB d L = decide (0 < L.length) := by unfold takeB; rw [h]; rfl
theorem valid_drop {d : Int} {L : List Rq} (h : validG d L = true) : validG d (L.drop 1) = true := by
  rw [valid_iff] at h ⊢
  refine ⟨h.1, by rw [List.length_drop]; omega, fun i x hx => ?_⟩
  rw [List.getElem?_drop] at hx
  obtain ⟨h1, h2⟩ := h.2.2 _ x hx
  refine ⟨h1, fun j y hj hy => ?_⟩
  rw [List.getElem?_drop] at hy
  exact h2 (1 + j) y (by omega) hy
theorem valid_add {d : Int} {L : List Rq} {z : Rq} (h : validG d L = true) (hl : (L.length : Int) < d) (h0 : 0 ≤ z.serial) (hlast : ∀ y, L[L.length - 1]? = some y → y.serial < z.serial) : validG d (L ++ [z]) = true := by
  rw [valid_iff] at h ⊢
  refine ⟨h.1, by rw [List.length_append]; simp only [List.length_cons, List.length_nil]; omega, fun i x hx => ?_⟩
  by_cases hi : i < L.length
  · rw [List.getElem?_append_left hi] at hx
    obtain ⟨h1, h2⟩ := h.2.2 i x hx
    refine ⟨h1, fun j y hj hy => h2 j y hj ?_⟩
    rwa [List.getElem?_append_left (by omega)] at hy
  · have hi2 : i = L.length := by
      have := (List.getElem?_eq_some_iff.1 hx).1
      rw [List.length_append] at this
      simp only [List.length_cons, List.length_nil] at this
      omega
    subst hi2
    rw [List.getElem?_append_right (Nat.le_refl _), Nat.sub_self] at hx
    obtain rfl := Option.some.inj (show some z = some x from hx)
    refine ⟨h0, fun j y hj hy => hlast y ?_⟩
    rw [List.getElem?_append_left (by omega)] at hy
    rw [show L.length - 1 = j by omega]
    exact hy
/-- the numbers of the requests of a ring -/
def serials (L : List Rq) : List Int := L.map Rq.serial
theorem serials_len (L : List Rq) : (serials L).length = L.length := by simp [serials]
theorem serials_get {L : List Rq} {i : Nat} {y : Rq} (h : L[i]? = some y) : (serials L)[i]? = some y.serial := by simp [serials, h]
theorem serials_drop (L : List Rq) : serials (L.drop 1) = (serials L).drop 1 := by simp [serials]
theorem serials_add (L : List Rq) (z : Rq) : serials (L ++ [z]) = serials L ++ [z.serial] := by simp [serials]
end Go.Proofs.Ytljdepnhhngbeaa.RingMath
