
/- The walks of the document's Clear, Change of counters. -/
import Derived.Test.YtljdepnhhngbeaaCntNew
namespace Go.Proofs.Ytljdepnhhngbeaa.Ents
open Go.RowKit Plan EntMath CntMath
/-- a load of a whole struct under a guard -/
theorem load_lit_gc {P : Program} {ops : Array Oper} {rest : List Oper} {a : Act} {w : World} {Q : Exit → Act → World → Prop} (ty : TypeId) (x : Operand) {dst : Option Tmp} {t' : TypeId} {pos : String} {after : Array Edge} {j : Nat} {y : Bool}
    (g : Nat) {t : TypeId} {cs : Array Value} {fr : Nat × Nat} {d : TypeDesc} (hw : Region.wanted ⟨dst, .load ty x, t', pos, after, some (j, y)⟩ (yielded ops a.tmps) = true) (hx : a.eval x = .pointer (some ⟨g, 0, none⟩)) (hg : w.heap[g]? = some (.cells cs t fr))
    (hu : P.underlying ty = some d) (hd : (match d with | .struct _ | .array _ _ => true | _ => false) = true) (hi : (P.info? ty).map (·.size) = some cs.size)
    (h : wpList P ops Q rest (a.put dst (.agg cs)) w) : wpList P ops Q (⟨dst, .load ty x, t', pos, after, some (j, y)⟩ :: rest) a w :=
  BigFrame.wpList_want hw fun _ hK => wp_load_row ty x rfl g hx t cs fr d hg hu hd hi (hK _ _ h)
theorem run_store_slice_c (w : World) (ty : TypeId) (b o : Nat) (sa : Option Addr) (sl sc : Nat) (hc : ∃ u, w.cell? ⟨b, o, none⟩ = some u) (hf : w.frozen? ⟨b, o, none⟩ = false) (hi : (Try.prog.info? ty).map (·.size) = some 1) :
    (storeVar ty ⟨b, o, none⟩ (.slice sa sl sc)).run Try.prog w = .ok () (w.setCell ⟨b, o, none⟩ (.slice sa sl sc)) := by
  obtain ⟨u, hu⟩ := hc
  cases hq : Try.prog.info? ty with
  | none => simp [hq] at hi
  | some i =>
    have hs : i.size = 1 := by simpa [hq] using hi
    have hst := run_store Try.prog w ⟨b, o, none⟩ (.slice sa sl sc) .plain rfl
    rw [hu, hf] at hst
    simp only [Bool.false_eq_true, if_false] at hst
    have ha : (⟨b, o, none⟩ : Addr).add 0 = ⟨b, o, none⟩ := by rw [Addr.add_lit, Nat.add_zero]
    simp [storeVar, sizeOf, typeInfo, hq, Value.cells, hs, storeCells, ha, hst]
theorem wp_store_slice_c {op : Oper} {a : Act} {w : World} {K : Act → World → Prop} {Q : Exit → Act → World → Prop} (ty : TypeId) (x y : Operand) (ho : op.op = .store ty x y)
    (b o : Nat) (sa : Option Addr) (sl sc : Nat) (hx : a.eval x = .pointer (some ⟨b, o, none⟩)) (hy : a.eval y = .slice sa sl sc) (hc : ∃ u, w.cell? ⟨b, o, none⟩ = some u) (hf : w.frozen? ⟨b, o, none⟩ = false) (hi : (Try.prog.info? ty).map (·.size) = some 1)
    (h : K (a.put op.dst undef) (w.setCell ⟨b, o, none⟩ (.slice sa sl sc))) : op.wp Try.prog a w K Q := by
  unfold Oper.wp execOp
  simp only [ho, hx, hy, Instr.storeAt, Instr.sureAddr, Sem.run_bind, Sem.run_pure, Result.andThen_ok, run_store_slice_c w ty b o sa sl sc hc hf hi]
  exact h
theorem store_slice_c {ops : Array Oper} {rest : List Oper} {a : Act} {w : World} {Q : Exit → Act → World → Prop} (ty : TypeId) (x y : Operand) {t' : TypeId} {pos : String} {after : Array Edge}
    (b o : Nat) (sa : Option Addr) (sl sc : Nat) (hx : a.eval x = .pointer (some ⟨b, o, none⟩)) (hy : a.eval y = .slice sa sl sc) (hc : ∃ u, w.cell? ⟨b, o, none⟩ = some u) (hf : w.frozen? ⟨b, o, none⟩ = false) (hi : (Try.prog.info? ty).map (·.size) = some 1)
    (h : wpList Try.prog ops Q rest (a.put none undef) (w.setCell ⟨b, o, none⟩ (.slice sa sl sc))) : wpList Try.prog ops Q (⟨none, .store ty x y, t', pos, after, none⟩ :: rest) a w :=
  wpList_plain rfl fun _ hK => wp_store_slice_c ty x y rfl b o sa sl sc hx hy hc hf hi (hK _ _ h)
theorem ints_info1 : (Try.prog.info? 36).map (·.size) = some 1 := by kernel_rfl
theorem free_row_c {w : World} {g o : Nat} {cs : Array Value} {t : TypeId} (h : w.heap[g]? = some (.cells cs t (0, 0))) : w.frozen? ⟨g, o, none⟩ = false := by simp [World.frozen?, h]
theorem change_no {C : Cnt} {o f : Int} {had is : Bool} (h : asksC C o f had is = false) : changeC C o f had is = C ∧ changeB C o f had is = false := by
  have h1 : changeB C o f had is = false := by unfold changeB; rw [h]; rfl
  exact ⟨by unfold changeC; rw [h1]; rfl, h1⟩
theorem change_yes {C : Cnt} {o f : Int} {had is : Bool} (h : asksC C o f had is = true) : changeB C o f had is = validC (changedC C o f had is) ∧ changeC C o f had is = if validC (changedC C o f had is) = true then changedC C o f had is else C := by
  have h1 : changeB C o f had is = validC (changedC C o f had is) := by unfold changeB; rw [h, Bool.true_and]
  exact ⟨h1, by unfold changeC; rw [h1]⟩
end Go.Proofs.Ytljdepnhhngbeaa.Ents
