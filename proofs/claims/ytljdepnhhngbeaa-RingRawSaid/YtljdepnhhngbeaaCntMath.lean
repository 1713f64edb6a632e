
/- Counters of zones, and what layer 10 of the document says of them. Plain mathematics. -/
import Derived.Test.YtljdepnhhngbeaaEntMath2
namespace Go.Proofs.Ytljdepnhhngbeaa.CntMath
open EntMath
structure Cnt where
  live : List Int
  pend : List Int
deriving DecidableEq
def okN (z : Int) : Bool := decide (0 ≤ z) && decide (z ≤ 1099511627776)
def validC (C : Cnt) : Bool := decide (C.live.length = C.pend.length) && decide (1 ≤ C.live.length) && decide (C.live.length ≤ 32) && C.live.all okN && C.pend.all okN
def hasC (C : Cnt) (z : Int) : Bool := validC C && decide (0 ≤ z) && decide (z < (C.live.length : Int))
def plusL (l : List Int) (i : Nat) (n : Int) : List Int := l.set i (l.getD i 0 + n)
def beginB (C : Cnt) (z : Int) : Bool := hasC C z && decide (C.pend.getD z.toNat 0 ≠ 1099511627776)
def beginC (C : Cnt) (z : Int) : Cnt := if beginB C z = true then ⟨C.live, plusL C.pend z.toNat 1⟩ else C
def endB (C : Cnt) (z : Int) : Bool := hasC C z && decide (C.pend.getD z.toNat 0 ≠ 0)
def endC (C : Cnt) (z : Int) : Cnt := if endB C z = true then ⟨C.live, plusL C.pend z.toNat (-1)⟩ else C
def clearB (C : Cnt) (z : Int) : Bool := hasC C z && decide (C.live.getD z.toNat 0 = 0) && decide (C.pend.getD z.toNat 0 = 0)
/-- the counters that a change would lead to -/
def less (C : Cnt) (o : Int) (had : Bool) : List Int := if had = true then plusL C.live o.toNat (-1) else C.live
def more (l : List Int) (f : Int) (is : Bool) : List Int := if is = true then plusL l f.toNat 1 else l
def changedC (C : Cnt) (o f : Int) (had is : Bool) : Cnt := ⟨more (less C o had) f is, C.pend⟩
/-- may it be changed so -/
def asksC (C : Cnt) (o f : Int) (had is : Bool) : Bool := validC C && (!had || hasC C o) && (!is || hasC C f)
def changeB (C : Cnt) (o f : Int) (had is : Bool) : Bool := asksC C o f had is && validC (changedC C o f had is)
def changeC (C : Cnt) (o f : Int) (had is : Bool) : Cnt := if changeB C o f had is = true then changedC C o f had is else C
def newC (z : Int) : Cnt := if 1 ≤ z ∧ z ≤ 32 then ⟨List.replicate z.toNat 0, List.replicate z.toNat 0⟩ else ⟨[], []⟩
def newCE (z : Int) : Int := if 1 ≤ z ∧ z ≤ 32 then 0 else 1
/-- the counters of entries -/
def countL (l : List Int) (L : List Ent) : List Int := L.foldl (fun l e => plusL l e.zone.toNat 1) l
def inZ (z : Int) (L : List Ent) : Bool := L.all fun e => decide (0 ≤ e.zone) && decide (e.zone < z)
def ofB (z : Int) (L : List Ent) : Bool := decide (1 ≤ z) && decide (z ≤ 32) && inZ z L
def ofC (z : Int) (L : List Ent) : Cnt := if ofB z L = true then ⟨countL (List.replicate z.toNat 0) L, List.replicate z.toNat 0⟩ else ⟨[], []⟩
theorem plus_len (l : List Int) (i : Nat) (n : Int) : (plusL l i n).length = l.length := by simp [plusL]
theorem ok_n {z : Int} : okN z = true ↔ 0 ≤ z ∧ z ≤ 1099511627776 := by simp [okN]
theorem valid_c {C : Cnt} : validC C = true ↔ (C.live.length = C.pend.length ∧ 1 ≤ C.live.length ∧ C.live.length ≤ 32) ∧ (∀ z ∈ C.live, 0 ≤ z ∧ z ≤ 1099511627776) ∧ ∀ z ∈ C.pend, 0 ≤ z ∧ z ≤ 1099511627776 := by
  unfold validC
  simp only [Bool.and_eq_true, decide_eq_true_eq, List.all_eq_true, ok_n]
  constructor
  · rintro ⟨⟨⟨⟨h1, h2⟩, h3⟩, h4⟩, h5⟩
    exact ⟨⟨h1, h2, h3⟩, h4, h5⟩
  · rintro ⟨⟨h1, h2, h3⟩, h4, h5⟩
    exact ⟨⟨⟨⟨h1, h2⟩, h3⟩, h4⟩, h5⟩
theorem has_c {C : Cnt} {z : Int} : hasC C z = true ↔ validC C = true ∧ 0 ≤ z ∧ z < (C.live.length : Int) := by
  unfold hasC
  simp only [Bool.and_eq_true, decide_eq_true_eq, and_assoc]
theorem getD_ok {l : List Int} (h : ∀ z ∈ l, 0 ≤ z ∧ z ≤ 1099511627776) (i : Nat) : 0 ≤ l.getD i 0 ∧ l.getD i 0 ≤ 1099511627776 := by
  rw [List.getD_eq_getElem?_getD]
  cases h1 : l[i]? with
  | none => simp
  | some z => exact h z (List.mem_of_getElem? h1)
theorem getD_at {l : List Int} {i : Nat} {z : Int} (h : l[i]? = some z) : l.getD i 0 = z := by rw [List.getD_eq_getElem?_getD, h]; rfl
theorem count_len (l : List Int) (L : List Ent) : (countL l L).length = l.length := by
  unfold countL
  induction L generalizing l with
  | nil => rfl
  | cons e L ih => rw [List.foldl_cons, ih, plus_len]
theorem count_next {l : List Int} {L : List Ent} {i : Nat} {e : Ent} (h : L[i]? = some e) : countL l (L.take (i + 1)) = plusL (countL l (L.take i)) e.zone.toNat 1 := by
  unfold countL
  rw [List.take_add_one, h, List.foldl_append]
  rfl
theorem plus_bound {l : List Int} {k : Int} (h : ∀ z ∈ l, 0 ≤ z ∧ z ≤ k) (hk : 0 ≤ k) (i : Nat) : ∀ z ∈ plusL l i 1, 0 ≤ z ∧ z ≤ k + 1 := by
  intro z hz
  unfold plusL at hz
  rcases List.mem_or_eq_of_mem_set hz with hz | rfl
  · have := h z hz
    omega
  · rw [List.getD_eq_getElem?_getD]
    cases h1 : l[i]? with
    | none => simp; omega
    | some y =>
      have := h y (List.mem_of_getElem? h1)
      simp only [Option.getD_some]
      omega
theorem count_bound (n : Nat) (L : List Ent) (i : Nat) (hi : i ≤ L.length) : ∀ z ∈ countL (List.replicate n 0) (L.take i), 0 ≤ z ∧ z ≤ (i : Int) := by
  induction i with
  | zero =>
    intro z hz
    rw [List.take_zero] at hz
    have := List.eq_of_mem_replicate hz
    omega
  | succ i ih =>
    have he : L[i]? = some (L[i]'(by omega)) := List.getElem?_eq_getElem _
    rw [count_next he]
    intro z hz
    have := plus_bound (ih (by omega)) (by omega) _ z hz
    omega
theorem count_valid {n : Nat} (h1 : 1 ≤ n) (h32 : n ≤ 32) (L : List Ent) (hL : L.length ≤ 1000000) (i : Nat) (hi : i ≤ L.length) : validC ⟨countL (List.replicate n 0) (L.take i), List.replicate n 0⟩ = true := by
  refine valid_c.2 ⟨⟨by simp [count_len], by simpa [count_len] using h1, by simpa [count_len] using h32⟩, fun z hz => ?_, fun z hz => ?_⟩
  · have := count_bound n L i hi z hz
    omega
  · have := List.eq_of_mem_replicate hz
    omega
end Go.Proofs.Ytljdepnhhngbeaa.CntMath
