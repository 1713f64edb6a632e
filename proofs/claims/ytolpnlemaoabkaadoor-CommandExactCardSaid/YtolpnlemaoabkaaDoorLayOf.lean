
/- The walks of the layout's Of and Check, the program's and the document's own. -/
import Derived.Test.YtolpnlemaoabkaaDoorLayLeaf
namespace Go.Proofs.YtolpnlemaoabkaaDoor
open Go.RowKit Plan LayMath
abbrev confRow (z s b q d h : Int) : Obj := .cells #[.int .i64 z, .int .i64 s, .int .i64 b, .int .i64 q, .int .i64 d, .int .i64 h] 23
/-- what Of gives -/
def layE (z s b q d h : Int) : Value := if errN z s b q d h = 0 then layV z s b q else .agg #[.int .i64 0, .int .i64 0, .int .i64 0, .int .i64 0]
def ofV (z s b q d h : Int) : Value := .tuple #[layE z s b q d h, .int .i64 (errN z s b q d h)]
theorem lay_on {B g : Nat} {W w1 : World} {x : Option Obj} (hb : Below B W w1) (h : W.heap[g]? = x) (hg : g < B) : w1.heap[g]? = x := heap_old hb hg h
theorem lay_al {g : Nat} {w : World} {o : Obj} (h : w.heap[g]? = some o) (o2 : Obj) : (w.alloc o2).heap[g]? = some o := (Below.heap_alloc _ _ _ (Array.getElem?_eq_some_iff.1 h).1).trans h
theorem lay_lt {g : Nat} {w : World} {o : Obj} (h : w.heap[g]? = some o) : g < w.heap.size := (Array.getElem?_eq_some_iff.1 h).1
theorem lay4 {w : World} {g : Nat} {a b c d : Value} {t : TypeId} {fr : Nat × Nat} (h : w.heap[g]? = some (.cells #[a, b, c, d] t fr)) :
    g < w.heap.size ∧ w.cell? ⟨g, 0, none⟩ = some a ∧ w.cell? ⟨g, 1, none⟩ = some b ∧ w.cell? ⟨g, 2, none⟩ = some c ∧ w.cell? ⟨g, 3, none⟩ = some d :=
  ⟨(Array.getElem?_eq_some_iff.1 h).1, cell_of_row _ _ 0 _ _ _ h, cell_of_row _ _ 1 _ _ _ h, cell_of_row _ _ 2 _ _ _ h, cell_of_row _ _ 3 _ _ _ h⟩
theorem conf6 {w : World} {g : Nat} {a b c d e f : Value} {t : TypeId} {fr : Nat × Nat} (h : w.heap[g]? = some (.cells #[a, b, c, d, e, f] t fr)) :
    w.cell? ⟨g, 0, none⟩ = some a ∧ w.cell? ⟨g, 1, none⟩ = some b ∧ w.cell? ⟨g, 2, none⟩ = some c ∧ w.cell? ⟨g, 3, none⟩ = some d ∧ w.cell? ⟨g, 4, none⟩ = some e ∧ w.cell? ⟨g, 5, none⟩ = some f :=
  ⟨cell_of_row _ _ 0 _ _ _ h, cell_of_row _ _ 1 _ _ _ h, cell_of_row _ _ 2 _ _ _ h, cell_of_row _ _ 3 _ _ _ h, cell_of_row _ _ 4 _ _ _ h, cell_of_row _ _ 5 _ _ _ h⟩
/-- a load of a whole row at an operation with a guard that says yes -/
theorem load_lit_g {P : Program} {ops : Array Oper} {rest : List Oper} {a : Act} {w : World} {Q : Exit → Act → World → Prop} (ty : TypeId) (x : Operand) {dst : Option Tmp} {t' : TypeId} {pos : String} {after : Array Edge} {j : Nat} {y : Bool}
    (g : Nat) {t : TypeId} {cs : Array Value} {fr : Nat × Nat} {d : TypeDesc} (hw : Region.wanted ⟨dst, .load ty x, t', pos, after, some (j, y)⟩ (yielded ops a.tmps) = true) (hx : a.eval x = .pointer (some ⟨g, 0, none⟩)) (hg : w.heap[g]? = some (.cells cs t fr))
    (hu : P.underlying ty = some d) (hd : (match d with | .struct _ | .array _ _ => true | _ => false) = true) (hi : (P.info? ty).map (·.size) = some cs.size)
    (h : wpList P ops Q rest (a.put dst (.agg cs)) w) : wpList P ops Q (⟨dst, .load ty x, t', pos, after, some (j, y)⟩ :: rest) a w :=
  BigFrame.wpList_want hw fun _ hK => wp_load_row ty x rfl g hx t cs fr d hg hu hd hi (hK _ _ h)
theorem lay_eq {x y : Value} (h : x = y) : Ending.returned x = .returned y := by rw [h]
theorem of_out {z s b q d h : Int} (hr : inR z s b q d h = false) : ofV z s b q d h = .tuple #[.agg #[.int .i64 0, .int .i64 0, .int .i64 0, .int .i64 0], .int .i64 1] := by
  unfold ofV layE; rw [errN_out hr]; rfl
theorem of_tight {z s b q d h : Int} (hr : inR z s b q d h = true) (hf : dataN z s b < 6 ∨ capN z s b q < 1) : ofV z s b q d h = .tuple #[.agg #[.int .i64 0, .int .i64 0, .int .i64 0, .int .i64 0], .int .i64 11] := by
  unfold ofV layE; rw [errN_tight hr (by unfold fits; rcases hf with h | h <;> simp [h])]; rfl
theorem of_fit {z s b q d h : Int} (hr : inR z s b q d h = true) (h1 : 6 ≤ dataN z s b) (h2 : 1 ≤ capN z s b q) : ofV z s b q d h = .tuple #[layV z s b q, .int .i64 0] := by
  unfold ofV layE; rw [errN_fit hr (by unfold fits; simp; omega)]; rfl
end Go.Proofs.YtolpnlemaoabkaaDoor
