
/- The load of a whole row in a plan. -/
import Derived.Test.YtljdepnhhngbeaaBasePlan
namespace Go.Proofs.Ytljdepnhhngbeaa
open Go.RowKit
namespace Plan
variable {P : Program} {ops : Array Oper} {Q : Exit → Act → World → Prop} {S : World → Prop}
theorem take_load {o : Oper} {r : List (Option Oper × Bool)} {a : Act} {w : World} (ty : TypeId) (x : Operand) (g : Nat) (cs : Array Value) {t : TypeId} {fr : Nat × Nat} {d : TypeDesc}
    (hw : Region.wanted o (yielded ops a.tmps) = true) (ho : o.op = .load ty x) (hx : a.eval x = .pointer (some ⟨g, 0, none⟩)) (hS : ∀ w, S w → w.heap[g]? = some (.cells cs t fr))
    (hu : P.underlying ty = some d) (hd : (match d with | .struct _ | .array _ _ => true | _ => false) = true) (hi : (P.info? ty).map (·.size) = some cs.size)
    (h : goes P ops Q S r (a.put o.dst (.agg cs)) w) : goes P ops Q S ((some o, true) :: r) a w :=
  take (.agg cs) hw (fun w9 h9 => by
    simp [execOp, ho, hx, Instr.loadAt, Instr.sureAddr, run_loadVar_row w9 g t ty cs fr d (hS w9 h9) hu hd hi]) h
end Plan
end Go.Proofs.Ytljdepnhhngbeaa
