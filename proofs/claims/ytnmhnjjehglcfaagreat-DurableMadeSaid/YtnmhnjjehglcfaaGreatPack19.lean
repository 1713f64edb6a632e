/- Texts that belong together, part 19. -/
import Derived.Test.YtnmhnjjehglcfaaGreatPack18

/- The walk of the law's command that is made of numbers. -/
namespace Go.Proofs.YtnmhnjjehglcfaaGreat.Ents
open Go.RowKit Plan ModMath CmdMath Rws Env LayMath
end Go.Proofs.YtnmhnjjehglcfaaGreat.Ents

/- The walks of the document's skipped and next: one step of the search. -/
namespace Go.Proofs.YtnmhnjjehglcfaaGreat.Ents
open Go.RowKit Plan HisMath LinMath ModMath Rws Env LayMath
end Go.Proofs.YtnmhnjjehglcfaaGreat.Ents

/- The walk of the document's must: which operations have to occur, and which do not. -/
namespace Go.Proofs.YtnmhnjjehglcfaaGreat.LinMath
open HisMath
end Go.Proofs.YtnmhnjjehglcfaaGreat.LinMath
namespace Go.Proofs.YtnmhnjjehglcfaaGreat.Ents
open Go.RowKit Plan HisMath LinMath Rws Env LayMath Bits
end Go.Proofs.YtnmhnjjehglcfaaGreat.Ents

/- The walk of the document's start: the search of a history. -/
namespace Go.Proofs.YtnmhnjjehglcfaaGreat.LinMath
open HisMath
/-- the operations that are before one -/
def setN (L O : List Ev) (t : Int) : Nat → Nat
  | 0 => 0
  | k + 1 => match O[k]? with
    | some y => if beforeB L y.serial t = true then setN L O t k ||| 2 ^ k else setN L O t k
    | none => setN L O t k
def firstE (L O : List Ev) (n : Nat) : Nat → List Int
  | 0 => []
  | i + 1 => match O[i]? with
    | some x => firstE L O n i ++ [((setN L O x.serial n : Nat) : Int)]
    | none => firstE L O n i
theorem first_next {L O : List Ev} {n i : Nat} {x : Ev} (h : O[i]? = some x) : firstE L O n i ++ [((setN L O x.serial n : Nat) : Int)] = firstE L O n (i + 1) := by simp [firstE, h]
end Go.Proofs.YtnmhnjjehglcfaaGreat.LinMath
namespace Go.Proofs.YtnmhnjjehglcfaaGreat.Ents
open Go.RowKit Plan HisMath LinMath Rws Env LayMath Bits
end Go.Proofs.YtnmhnjjehglcfaaGreat.Ents

/- What the search does to the set of states it has seen and to the ends it has found. Plain mathematics. -/
namespace Go.Proofs.YtnmhnjjehglcfaaGreat.LinMath
open HisMath ModMath Bits
/-- what the block can be at the end, from a state on -/
def Ends (L O : List Ev) (D : Nat) (v : ByteArray) (u : ByteArray) : Prop := ∃ l D', Path L O D v l D' u ∧ goalP O D'
theorem ends_step {L O : List Ev} {D : Nat} {v u : ByteArray} : Ends L O D v u ↔ (goalP O D ∧ u = v) ∨ ∃ i x v', O[i]? = some x ∧ canP L O D i x ∧ nextV x v = some v' ∧ Ends L O (D ||| 2 ^ i) v' u := by
  constructor
  · rintro ⟨l, D', h, hg⟩
    cases h with
    | nil => exact .inl ⟨hg, rfl⟩
    | @cons _ _ i x v' l D' _ hx hc hn h => exact .inr ⟨i, x, v', hx, hc, hn, l, D', h, hg⟩
  · rintro (⟨hg, rfl⟩ | ⟨i, x, v', hx, hc, hn, l, D', h, hg⟩)
    · exact ⟨[], D, .nil _ _, hg⟩
    · exact ⟨_, D', .cons hx hc hn h, hg⟩
def sub (D D' : Nat) : Prop := ∀ k, D.testBit k = true → D'.testBit k = true
theorem sub_refl (D : Nat) : sub D D := fun _ h => h
theorem sub_or {D D' i : Nat} (h : sub (D ||| 2 ^ i) D') : sub D D' ∧ D'.testBit i = true :=
  ⟨fun k hk => h k (by rw [bit_or, hk]; rfl), h i (by rw [bit_or]; simp)⟩
/-- what was seen from a state on has no end but the known ones -/
def Known (L O : List Ev) (D : Nat) (Sn : List (Int × ByteArray)) (E : ByteArray → Prop) : Prop :=
  ∀ (D' : Nat) (v' : ByteArray), ((D' : Int), v') ∈ Sn → sub D D' → ∀ u, Ends L O D' v' u → E u
structure VPostM (L O : List Ev) (D : Nat) (v : ByteArray) (Sn : List (Int × ByteArray)) (E : ByteArray → Prop) (Sn' : List (Int × ByteArray)) (E' : ByteArray → Prop) : Prop where
  old : ∀ p ∈ Sn, p ∈ Sn'
  new : ∀ p ∈ Sn', p ∈ Sn ∨ ∃ D' : Nat, p.1 = (D' : Int) ∧ sub D D' ∧ ∀ u, Ends L O D' p.2 u → E' u
  mono : ∀ u, E u → E' u
  only : ∀ u, E' u → E u ∨ Ends L O D v u
  all : ∀ u, Ends L O D v u → E' u
structure VStep (L O : List Ev) (D : Nat) (v : ByteArray) (Sn : List (Int × ByteArray)) (E : ByteArray → Prop) (i : Nat) (Sn' : List (Int × ByteArray)) (E' : ByteArray → Prop) : Prop where
  old : ∀ p ∈ Sn, p ∈ Sn'
  new : ∀ p ∈ Sn', p ∈ Sn ∨ p = ((D : Int), v) ∨ ∃ D' : Nat, p.1 = (D' : Int) ∧ sub D D' ∧ ∀ u, Ends L O D' p.2 u → E' u
  mono : ∀ u, E u → E' u
  only : ∀ u, E' u → E u ∨ Ends L O D v u
  goal : goalP O D → E' v
  upto : ∀ j x v', j < i → O[j]? = some x → canP L O D j x → nextV x v = some v' → ∀ u, Ends L O (D ||| 2 ^ j) v' u → E' u
variable {L O : List Ev} {D : Nat} {v : ByteArray} {Sn Sn' Sn2 : List (Int × ByteArray)} {E E' E2 : ByteArray → Prop} {i : Nat}
theorem VStep.skip (h : VStep L O D v Sn E i Sn' E') {x : Ev} (hx : O[i]? = some x) (hn : canP L O D i x → nextV x v = none) : VStep L O D v Sn E (i + 1) Sn' E' :=
  ⟨h.old, h.new, h.mono, h.only, h.goal, fun j y v' hj hy hc hv => by
    by_cases hji : j < i
    · exact h.upto j y v' hji hy hc hv
    · obtain rfl : j = i := by omega
      rw [hx] at hy
      obtain rfl := Option.some.inj hy
      rw [hn hc] at hv; cases hv⟩
/-- what the search knows before it goes on -/
theorem VStep.known (h : VStep L O D v Sn E i Sn' E') (hk : Known L O D Sn E) (hb : D.testBit i = false) : Known L O (D ||| 2 ^ i) Sn' E' := fun D' v' hm hs u hu => by
  obtain ⟨s1, s2⟩ := sub_or hs
  rcases h.new _ hm with h1 | h1 | ⟨D2, h1, _, h3⟩
  · exact h.mono u (hk D' v' h1 s1 u hu)
  · exfalso
    have : (D' : Int) = (D : Int) := congrArg Prod.fst h1
    have : D' = D := by omega
    subst this
    rw [hb] at s2; cases s2
  · have h1' : (D' : Int) = (D2 : Int) := h1
    obtain rfl : D' = D2 := by omega
    exact h3 u hu
theorem VStep.call (h : VStep L O D v Sn E i Sn' E') {x : Ev} {v' : ByteArray} (hx : O[i]? = some x) (hc : canP L O D i x) (hv : nextV x v = some v') (q : VPostM L O (D ||| 2 ^ i) v' Sn' E' Sn2 E2) : VStep L O D v Sn E (i + 1) Sn2 E2 := by
  refine ⟨fun p hp => q.old p (h.old p hp), fun p hp => ?_, fun u hu => q.mono u (h.mono u hu), fun u hu => ?_, fun hg => q.mono _ (h.goal hg), fun j y v2 hj hy hc2 hv2 u hu => ?_⟩
  · rcases q.new p hp with h1 | ⟨D', h1, h2, h3⟩
    · rcases h.new p h1 with h4 | h4 | ⟨D', h4, h5, h6⟩
      · exact .inl h4
      · exact .inr (.inl h4)
      · exact .inr (.inr ⟨D', h4, h5, fun u hu => q.mono u (h6 u hu)⟩)
    · exact .inr (.inr ⟨D', h1, (sub_or h2).1, h3⟩)
  · rcases q.only u hu with h1 | h1
    · exact h.only u h1
    · exact .inr (ends_step.2 (.inr ⟨i, x, v', hx, hc, hv, h1⟩))
  · by_cases hji : j < i
    · exact q.mono u (h.upto j y v2 hji hy hc2 hv2 u hu)
    · obtain rfl : j = i := by omega
      rw [hx] at hy
      obtain rfl := Option.some.inj hy
      rw [hv] at hv2
      obtain rfl := Option.some.inj hv2
      exact q.all u hu
theorem VStep.done (h : VStep L O D v Sn E i Sn' E') (hi : i = O.length) : VPostM L O D v Sn E Sn' E' := by
  have hall : ∀ u, Ends L O D v u → E' u := fun u hu => by
    rcases ends_step.1 hu with ⟨h1, h2⟩ | ⟨j, x, v', hx, hc, hv, he⟩
    · rw [h2]; exact h.goal h1
    · exact h.upto j x v' (by rw [hi]; exact (List.getElem?_eq_some_iff.1 hx).1) hx hc hv u he
  refine ⟨h.old, fun p hp => ?_, h.mono, h.only, hall⟩
  rcases h.new p hp with h1 | h1 | h1
  · exact .inl h1
  · exact .inr ⟨D, by rw [h1], sub_refl D, by rw [h1]; exact hall⟩
  · exact .inr h1
end Go.Proofs.YtnmhnjjehglcfaaGreat.LinMath
