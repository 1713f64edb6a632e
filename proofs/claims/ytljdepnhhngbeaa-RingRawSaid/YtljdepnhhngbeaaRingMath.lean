
/- Rings: what layer 16 of the document says of them. Plain mathematics. -/
namespace Go.Proofs.Ytljdepnhhngbeaa.RingMath
structure Rq where
  serial : Int
  kind : Int
  block : Int
  data : ByteArray
def rq0 : Rq := ⟨0, 0, 0, ⟨#[]⟩⟩
/-- is the item at i as it should be -/
def ascG (L : List Rq) (i : Nat) : Bool :=
  match L[i]? with
  | none => true
  | some x => decide (0 ≤ x.serial) && match i with
    | 0 => true
    | j + 1 => match L[j]? with
      | none => true
      | some y => decide (y.serial < x.serial)
def validG (d : Int) (L : List Rq) : Bool := decide (1 ≤ d) && decide (d ≤ 8) && decide ((L.length : Int) ≤ d) && (List.range L.length).all (ascG L)
def lastG (L : List Rq) : Option Rq := L[L.length - 1]?
def submitE (d : Int) (L : List Rq) (s : Int) : Int :=
  if validG d L = false then 6
  else if (L.length : Int) = d then 13
  else if s < 0 then 17
  else match lastG L with
    | none => 0
    | some y => if s ≤ y.serial then 17 else 0
def submitG (d : Int) (L : List Rq) (x : Rq) : List Rq := if submitE d L x.serial = 0 then L ++ [x] else L
def takeB (d : Int) (L : List Rq) : Bool := validG d L && decide (0 < L.length)
def takeG (d : Int) (L : List Rq) : List Rq := if takeB d L = true then L.drop 1 else L
def takeX (d : Int) (L : List Rq) : Rq := if takeB d L = true then L.getD 0 rq0 else rq0
theorem valid_out {d : Int} {L : List Rq} (h : d < 1 ∨ 8 < d ∨ d < (L.length : Int)) : validG d L = false := by
  unfold validG
  rcases h with h | h | h
  · simp [show ¬ 1 ≤ d by omega]
  · simp [show ¬ d ≤ 8 by omega]
  · simp [show ¬ (L.length : Int) ≤ d by omega]
theorem valid_bad {d : Int} {L : List Rq} {i : Nat} (hi : i < L.length) (h : ascG L i = false) : validG d L = false := by
  unfold validG
  have : (List.range L.length).all (ascG L) = false := by
    rw [List.all_eq_false]
    exact ⟨i, List.mem_range.2 hi, by simp [h]⟩
  rw [this, Bool.and_false]
theorem valid_yes {d : Int} {L : List Rq} (h1 : 1 ≤ d) (h2 : d ≤ 8) (h3 : (L.length : Int) ≤ d) (h : ∀ i, i < L.length → ascG L i = true) : validG d L = true := by
  unfold validG
  rw [decide_eq_true h1, decide_eq_true h2, decide_eq_true h3]
  simp only [Bool.true_and]
  rw [List.all_eq_true]
  exact fun i hi => h i (List.mem_range.1 hi)
theorem valid_len {d : Int} {L : List Rq} (h : validG d L = true) : (1 ≤ d ∧ d ≤ 8) ∧ (L.length : Int) ≤ d := by
  unfold validG at h
  simp only [Bool.and_eq_true, decide_eq_true_eq] at h
  exact ⟨h.1.1, h.1.2⟩
theorem asc_neg {L : List Rq} {i : Nat} {x : Rq} (hx : L[i]? = some x) (h : x.serial < 0) : ascG L i = false := by
  unfold ascG
  rw [hx]
  simp [show ¬ 0 ≤ x.serial by omega]
theorem asc_zero {L : List Rq} {x : Rq} (hx : L[0]? = some x) (h : ¬ x.serial < 0) : ascG L 0 = true := by
  unfold ascG
  rw [hx]
  simp [show 0 ≤ x.serial by omega]
theorem asc_next {L : List Rq} {j : Nat} {x y : Rq} (hx : L[j + 1]? = some x) (hy : L[j]? = some y) (h : ¬ x.serial < 0) : ascG L (j + 1) = decide (y.serial < x.serial) := by
  unfold ascG
  rw [hx]
  simp only [hy]
  rw [decide_eq_true (show 0 ≤ x.serial by omega), Bool.true_and]
end Go.Proofs.Ytljdepnhhngbeaa.RingMath
