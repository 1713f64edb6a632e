
/- The walk of the law's entry: an entry that is made of numbers, for any dice. -/
import Derived.Test.YtigmjpkhpoolkaaMakeNext
import Derived.Test.YtigmjpkhpoolkaaEntSame
namespace Go.Proofs.Ytigmjpkhpoolkaa.Ents
open Go.RowKit Plan EntMath
/-- the entry that is made -/
def mkK (zs : List Int) (k : Nat) : Int := if nxt zs (stp zs (stp zs (stp zs (stp zs (stp zs k))))) 3 = 2 then 2 else 1
def mkE (zs : List Int) (k : Nat) : Ent := ⟨nxt zs k 5, mkK zs k, 1 + nxt zs (stp zs k) 12, nxt zs (stp zs (stp zs k)) 3, nxt zs (stp zs (stp zs (stp zs k))) 4, nxt zs (stp zs (stp zs (stp zs (stp zs k)))) 4⟩
def stp6 (zs : List Int) (k : Nat) : Nat := stp zs (stp zs (stp zs (stp zs (stp zs (stp zs k)))))
theorem mk_ok (zs : List Int) (k : Nat) : okE (mkE zs k) = true ∧ 0 ≤ (mkE zs k).block ∧ (mkE zs k).block ≤ 4 ∧ (mkE zs k).version ≤ 12 ∧ (mkE zs k).move ≤ 2 := by
  have h1 := nxt_range zs k 5 (by decide)
  have h2 := nxt_range zs (stp zs k) 12 (by decide)
  have h3 := nxt_range zs (stp zs (stp zs k)) 3 (by decide)
  have h4 := nxt_range zs (stp zs (stp zs (stp zs k))) 4 (by decide)
  have h5 := nxt_range zs (stp zs (stp zs (stp zs (stp zs k)))) 4 (by decide)
  have hk : mkK zs k = 1 ∨ mkK zs k = 2 := by
    unfold mkK
    split
    · exact .inr rfl
    · exact .inl rfl
  refine ⟨ok_iff.2 ?_, ?_⟩
  · unfold mkE
    simp only
    refine ⟨hk, ?_⟩
    omega
  · unfold mkE
    simp only
    omega
theorem ent_dice_alloc {w : World} {base g : Nat} {zs : List Int} {k : Nat} (h : Dice w base g zs k) (o : Obj) : Dice (w.alloc o) base g zs k := dice_on h ((Below.refl _ _).alloc (Nat.le_refl _) o) (Nat.le_refl _)
theorem ent_row_grown {a b : World} {g x : Nat} {o : Obj} (h : a.grownBy b (some g)) (hx : a.heap[x]? = some o) (hne : x ≠ g) : b.heap[x]? = some o :=
  (h.block x (Array.getElem?_eq_some_iff.1 hx).1 (fun e => hne (Option.some.inj e))).trans hx
theorem ent_grown_row {a b : World} {r : Option Nat} (h : a.grownBy b r) {x : Nat} (hx : a.heap.size ≤ x) (cs : Array Value) : a.grownBy (b.setRow x cs) r :=
  ⟨h.os, h.tape, h.output, Nat.le_trans h.size (Nat.le_of_eq (by simp [World.setRow])), fun i hi hr => (setRow_other b x i cs (by omega)).trans (h.block i hi hr)⟩
theorem ent_alloc {a b : World} {r : Option Nat} (h : a.grownBy b r) (o : Obj) : a.grownBy (b.alloc o) r :=
  ⟨h.os, h.tape, h.output, Nat.le_trans h.size (by simp), fun i hi hr => (Below.heap_alloc _ _ _ (Nat.lt_of_lt_of_le hi h.size)).trans (h.block i hi hr)⟩
def EntryPost (w : World) (base g : Nat) (zs : List Int) (k : Nat) (r : Ending) (w' : World) : Prop :=
  r = .returned (entV (mkE zs k)) ∧ Dice w' base g zs (stp6 zs k) ∧ w.grownBy w' (some g)
end Go.Proofs.Ytigmjpkhpoolkaa.Ents
