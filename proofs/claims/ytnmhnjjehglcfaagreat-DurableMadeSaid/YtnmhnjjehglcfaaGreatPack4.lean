/- Texts that belong together, part 4. -/
import Derived.Test.YtnmhnjjehglcfaaGreatPack2
import Derived.Test.YtnmhnjjehglcfaaGreatProg
import Derived.Deep.MidRow
import Derived.Laws.Tables

/- The walks of the layout's own small functions: inRange, planned; and the document's 'of'. -/
namespace Go.Proofs.YtnmhnjjehglcfaaGreat
open Go.RowKit LayMath
/-- a configuration as a value -/
def confV (z s b q d h : Int) : Value := .agg #[.int .i64 z, .int .i64 s, .int .i64 b, .int .i64 q, .int .i64 d, .int .i64 h]
end Go.Proofs.YtnmhnjjehglcfaaGreat

/- The walks of the layout's Of and Check, the program's and the document's own. -/
namespace Go.Proofs.YtnmhnjjehglcfaaGreat
open Go.RowKit Plan LayMath
end Go.Proofs.YtnmhnjjehglcfaaGreat

/- A struct by value out of, and into, the middle of a box's row. -/
namespace Go.Proofs.YtnmhnjjehglcfaaGreat
open Go.RowKit
theorem setRow_self (w : World) (g : Nat) {cs : Array Value} {t : TypeId} (h : w.heap[g]? = some (.cells cs t (0, 0))) : w.setRow g cs = w := by
  have hh : (w.setRow g cs).heap = w.heap := by
    apply Array.ext_getElem?
    intro i
    by_cases hi : i = g
    · subst hi
      rw [setRow_heap _ _ _ _ _ _ h, h]
    · exact setRow_other _ _ _ _ hi
  rw [show w.setRow g cs = { w with heap := (w.setRow g cs).heap } from rfl, hh]
section
variable {P : Program} {ops : Array Oper} {rest : List Oper} {a : Act} {w : World} {Q : Exit → Act → World → Prop}
end
/-- a row into which some cells were put -/
def spl (cs : Array Value) : Nat → List Value → Array Value
  | _, [] => cs
  | o, v :: r => spl (cs.setIfInBounds o v) (o + 1) r
theorem mid_cells {g : Nat} {t : TypeId} : ∀ (vs : List Value) (o : Nat) (cs : Array Value) (w : World), w.heap[g]? = some (.cells cs t (0, 0)) → w.setCells g o vs = w.setRow g (spl cs o vs)
  | [], o, cs, w, h => by
    rw [World.setCells, spl]
    exact (setRow_self w g h).symm
  | v :: r, o, cs, w, h => by
    rw [World.setCells, spl, setCell_eq_setRow _ _ _ _ _ _ _ h, mid_cells r (o + 1) (cs.setIfInBounds o v) _ (setRow_heap _ _ _ _ _ _ h), setRow_setRow]
theorem mid_there {w : World} {g o n : Nat} {cs : Array Value} {t : TypeId} (h : w.heap[g]? = some (.cells cs t (0, 0))) (hn : o + n ≤ cs.size) : w.there g o n := fun j hj => by
  constructor
  · rw [cell_of_row w g (o + j) _ _ _ h, Array.getElem?_eq_getElem (by omega)]
    rfl
  · simp [World.frozen?, h]
theorem store_mid {P : Program} {ops : Array Oper} {rest : List Oper} {a : Act} {w : World} {Q : Exit → Act → World → Prop} (ty : TypeId) (x y : Operand) {t' : TypeId} {pos : String} {after : Array Edge} (g o : Nat) {t : TypeId} {cs : Array Value} (cells cs' : Array Value)
    (hx : a.eval x = .pointer (some ⟨g, o, none⟩)) (hy : a.eval y = .agg cells) (hg : w.heap[g]? = some (.cells cs t (0, 0))) (hn : o + cells.size ≤ cs.size) (hi : (P.info? ty).map (·.size) = some cells.size) (h1 : cells.all (·.oneCell') = true) (hcs : spl cs o cells.toList = cs')
    (h : wpList P ops Q rest (a.put none undef) (w.setRow g cs')) : wpList P ops Q (⟨none, .store ty x y, t', pos, after, none⟩ :: rest) a w :=
  wpList_store_mid rfl ty x y rfl g o cells hx hy (mid_there hg hn) hi h1 (by rw [mid_cells _ _ _ _ hg, hcs]; exact h)
namespace Plan
variable {P : Program} {ops : Array Oper} {Q : Exit → Act → World → Prop} {S : World → Prop}
end Plan
end Go.Proofs.YtnmhnjjehglcfaaGreat

/- The store of one number into a cell, as an operation: in a walk and in a plan (Plan.carry). -/
namespace Go.Proofs.YtnmhnjjehglcfaaGreat.Put
open Go.RowKit
end Go.Proofs.YtnmhnjjehglcfaaGreat.Put

/- Results: two rows and a number; a row, a row and an error and the like. -/
namespace Go.Proofs.YtnmhnjjehglcfaaGreat.Plan
open Go.RowKit
end Go.Proofs.YtnmhnjjehglcfaaGreat.Plan
