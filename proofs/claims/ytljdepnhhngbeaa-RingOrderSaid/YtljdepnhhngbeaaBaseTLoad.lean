
/- The load of a whole row in a tree of orders. -/
import Derived.Test.YtljdepnhhngbeaaBaseLTree
namespace Go.Proofs.Ytljdepnhhngbeaa
open Go.RowKit Tree
section
variable {P : Program} {ops : Array Oper} {Q : Exit → Act → World → Prop} {S : World → Prop}
theorem LTree.take_load {o : Oper} {r : T (Option Oper)} {a : Act} {w : World} (ty : TypeId) (x : Operand) (g : Nat) (cs : Array Value) {t : TypeId} {fr : Nat × Nat} {d : TypeDesc}
    (hw : Region.wanted o (yielded ops a.tmps) = true) (ho : o.op = .load ty x) (hx : a.eval x = .pointer (some ⟨g, 0, none⟩)) (hS : ∀ w, S w → w.heap[g]? = some (.cells cs t fr))
    (hu : P.underlying ty = some d) (hd : (match d with | .struct _ | .array _ _ => true | _ => false) = true) (hi : (P.info? ty).map (·.size) = some cs.size)
    (h : LTree.goes P ops Q S r (a.put o.dst (.agg cs)) w) : LTree.goes P ops Q S (.take (some o) r) a w :=
  LTree.take (.agg cs) hw (fun w9 h9 => by
    simp [execOp, ho, hx, Instr.loadAt, Instr.sureAddr, run_loadVar_row w9 g t ty cs fr d (hS w9 h9) hu hd hi]) h
theorem Tree.take_load {o : Oper} {r : T (Option Oper)} {a : Act} {w : World} (ty : TypeId) (x : Operand) (g : Nat) (cs : Array Value) {t : TypeId} {fr : Nat × Nat} {d : TypeDesc}
    (hw : Region.wanted o (yielded ops a.tmps) = true) (ho : o.op = .load ty x) (hx : a.eval x = .pointer (some ⟨g, 0, none⟩)) (hS : ∀ w, S w → w.heap[g]? = some (.cells cs t fr))
    (hu : P.underlying ty = some d) (hd : (match d with | .struct _ | .array _ _ => true | _ => false) = true) (hi : (P.info? ty).map (·.size) = some cs.size)
    (h : Tree.goes P ops Q S r (a.put o.dst (.agg cs)) w) : Tree.goes P ops Q S (.take (some o) r) a w :=
  Tree.take (.agg cs) hw (fun w9 h9 => by
    simp [execOp, ho, hx, Instr.loadAt, Instr.sureAddr, run_loadVar_row w9 g t ty cs fr d (hS w9 h9) hu hd hi]) h
end
end Go.Proofs.Ytljdepnhhngbeaa
