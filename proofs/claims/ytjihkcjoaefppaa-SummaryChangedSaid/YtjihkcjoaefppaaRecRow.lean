/- Records that lie in memory, and sectors that are written and read. -/
import Derived.Test.YtjihkcjoaefppaaRecDecRef
namespace Go.Proofs.Ytjihkcjoaefppaa
open Go.RowKit Plan

theorem recV_mk (k b v m : Int) (p : ByteArray) : recV (mk k b v m p) = #[.int .i64 k, .int .i64 b, .int .i64 v, .int .i64 m, .string p] := by
  simp only [recV, mk]
/-- what is written is read -/
theorem decode_enc (r : RecMath.Rec) (h : RecMath.checkE r = 0) (w : World) :
    Calls Try.prog 28 #[.string ⟨(RecMath.encL r).toArray⟩] w fun e w' => e = .returned (.tuple #[.agg (recV r), .int .i64 0]) ∧ Below w.heap.size w w' := by
  have := decode_any ⟨(RecMath.encL r).toArray⟩ w
  rwa [toList_mk, (RecMath.dec_enc h).1, (RecMath.dec_enc h).2] at this
/-- the cells of a record that lies in memory -/
theorem row5 {w : World} {g : Nat} {a b c d e : Value} {t : TypeId} {fr : Nat × Nat} (h : w.heap[g]? = some (.cells #[a, b, c, d, e] t fr)) :
    g < w.heap.size ∧ w.cell? ⟨g, 0, none⟩ = some a ∧ w.cell? ⟨g, 1, none⟩ = some b ∧ w.cell? ⟨g, 2, none⟩ = some c ∧ w.cell? ⟨g, 3, none⟩ = some d ∧ w.cell? ⟨g, 4, none⟩ = some e :=
  ⟨(Array.getElem?_eq_some_iff.1 h).1, cell_of_row _ _ 0 _ _ _ h, cell_of_row _ _ 1 _ _ _ h, cell_of_row _ _ 2 _ _ _ h, cell_of_row _ _ 3 _ _ _ h, cell_of_row _ _ 4 _ _ _ h⟩
/-- a record's row stays where nothing that was there has changed -/
theorem row_on {B g : Nat} {W w1 : World} {x : Option Obj} (hb : Below B W w1) (h : W.heap[g]? = x) (hg : g < B) : w1.heap[g]? = x := heap_old hb hg h
theorem row_al {g : Nat} {w : World} {o : Obj} (h : w.heap[g]? = some o) (o2 : Obj) : (w.alloc o2).heap[g]? = some o := (Below.heap_alloc _ _ _ (Array.getElem?_eq_some_iff.1 h).1).trans h
theorem setCell_row {w : World} {g : Nat} {cur : Array Value} {t : TypeId} {fr : Nat × Nat} (hg : w.heap[g]? = some (.cells cur t fr)) (i : Nat) (v : Value) :
    (w.setCell ⟨g, i, none⟩ v).heap[g]? = some (.cells (cur.setIfInBounds i v) t fr) := by
  rw [setCell_eq_setRow w g i cur t fr v hg]
  exact setRow_heap w g cur _ t fr hg
end Go.Proofs.Ytjihkcjoaefppaa
