
/- What the program promises of commands (its Check and Zero). -/
import Derived.Test.YtolpnlemaoabkaaDoorCmdIs
import Derived.Test.YtolpnlemaoabkaaDoorBaseBoxes
import Derived.Test.YtolpnlemaoabkaaDoorBaseLoad
import Derived.Test.YtolpnlemaoabkaaDoorBaseStore
import Derived.Deep.Cut
namespace Go.Proofs.YtolpnlemaoabkaaDoor.Ents
open Go.RowKit Plan LayMath CmdMath
theorem Cm.store_int {ops : Array Oper} {rest : List Oper} {a : Act} {w : World} {Q : Exit → Act → World → Prop} (ty : TypeId) (x y : Operand) {t' : TypeId} {pos : String} {after : Array Edge}
    (b o : Nat) (k : IntKind) (n : Int) (hx : a.eval x = .pointer (some ⟨b, o, none⟩)) (hy : a.eval y = .int k n) (hc : ∃ u, w.cell? ⟨b, o, none⟩ = some u) (hf : w.frozen? ⟨b, o, none⟩ = false) (hi : (Tryd.prog.info? ty).map (·.size) = some 1)
    (h : wpList Tryd.prog ops Q rest (a.put none undef) (w.setCell ⟨b, o, none⟩ (.int k n))) : wpList Tryd.prog ops Q (⟨none, .store ty x y, t', pos, after, none⟩ :: rest) a w :=
  wpList_plain rfl fun _ hK => Put.wp_store_int ty x y rfl b o k n hx hy hc hf hi (hK _ _ h)
theorem cm_free {w : World} {g o : Nat} {cs : Array Value} {t : TypeId} (h : w.heap[g]? = some (.cells cs t (0, 0))) : w.frozen? ⟨g, o, none⟩ = false := by simp [World.frozen?, h]
structure CommandOk : Prop where
  check : ∀ (cz cs cb cq cd ch k b : Int) (s : ByteArray) (w : World), s.size ≤ maxLen →
    Calls Tryd.prog 6 #[confV cz cs cb cq cd ch, cmdV k b s] w fun r w' => r = .returned (.int .i64 (checkC cb k b s.size)) ∧ Below w.heap.size w w'
  zero : ∀ (w : World), Calls Tryd.prog 10 #[] w fun r w' => r = .returned (.string zeroC) ∧ Below w.heap.size w w'
end Go.Proofs.YtolpnlemaoabkaaDoor.Ents
