/- Texts that belong together, part 6. -/
import Derived.Test.YtjdlekjikemdpaaPack5
import Derived.Test.YtjdlekjikemdpaaProg

/- The store of one number into a cell, as an operation: in a walk and in a plan (Plan.carry). -/
namespace Go.Proofs.Ytjdlekjikemdpaa.Put
open Go.RowKit
theorem run_store_int (w : World) (ty : TypeId) (b o : Nat) (k : IntKind) (n : Int) (hc : ∃ u, w.cell? ⟨b, o, none⟩ = some u) (hf : w.frozen? ⟨b, o, none⟩ = false) (hi : (Try.prog.info? ty).map (·.size) = some 1) :
    (storeVar ty ⟨b, o, none⟩ (.int k n)).run Try.prog w = .ok () (w.setCell ⟨b, o, none⟩ (.int k n)) := by
  obtain ⟨u, hu⟩ := hc
  cases hq : Try.prog.info? ty with
  | none => simp [hq] at hi
  | some i =>
    have hs : i.size = 1 := by simpa [hq] using hi
    have hst := run_store Try.prog w ⟨b, o, none⟩ (.int k n) .plain rfl
    rw [hu, hf] at hst
    simp only [Bool.false_eq_true, if_false] at hst
    have ha : (⟨b, o, none⟩ : Addr).add 0 = ⟨b, o, none⟩ := by rw [Addr.add_lit, Nat.add_zero]
    simp [storeVar, sizeOf, typeInfo, hq, Value.cells, hs, storeCells, ha, hst]
theorem wp_store_int {op : Oper} {a : Act} {w : World} {K : Act → World → Prop} {Q : Exit → Act → World → Prop} (ty : TypeId) (x y : Operand) (ho : op.op = .store ty x y)
    (b o : Nat) (k : IntKind) (n : Int) (hx : a.eval x = .pointer (some ⟨b, o, none⟩)) (hy : a.eval y = .int k n) (hc : ∃ u, w.cell? ⟨b, o, none⟩ = some u) (hf : w.frozen? ⟨b, o, none⟩ = false) (hi : (Try.prog.info? ty).map (·.size) = some 1)
    (h : K (a.put op.dst undef) (w.setCell ⟨b, o, none⟩ (.int k n))) : op.wp Try.prog a w K Q := by
  unfold Oper.wp execOp
  simp only [ho, hx, hy, Instr.storeAt, Instr.sureAddr, Sem.run_bind, Sem.run_pure, Result.andThen_ok, run_store_int w ty b o k n hc hf hi]
  exact h
theorem int_info1 : (Try.prog.info? 3).map (·.size) = some 1 := by kernel_rfl
end Go.Proofs.Ytjdlekjikemdpaa.Put

/- The walks of the layout's own small functions: inRange, planned; and the document's 'of'. -/
namespace Go.Proofs.Ytjdlekjikemdpaa
open Go.RowKit LayMath
/-- a configuration as a value -/
def confV (z s b q d h : Int) : Value := .agg #[.int .i64 z, .int .i64 s, .int .i64 b, .int .i64 q, .int .i64 d, .int .i64 h]
/-- a layout as a value -/
def layV (z s b q : Int) : Value := .agg #[.int .i64 (slotN s b), .int .i64 (2 * slotN s b), .int .i64 (dataN z s b), .int .i64 (capN z s b q)]
theorem lay_b {a b : Bool} (h : a = b) : Ending.returned (.bool a) = .returned (.bool b) := by rw [h]
theorem inR_last {z s b q d h : Int} (hn : 3 ≤ s ∧ s ≤ 64 ∧ 1 ≤ z ∧ z ≤ 32 ∧ 1 ≤ b ∧ b ≤ 128 ∧ 1 ≤ q ∧ q ≤ 4 ∧ 1 ≤ d ∧ d ≤ 8 ∧ 1 ≤ h) : decide (h ≤ 8) = inR z s b q d h := by
  cases hE : inR z s b q d h
  · rw [decide_eq_false_iff_not]
    intro h8
    rw [inR_iff.2 (by omega)] at hE
    cases hE
  · exact decide_eq_true (inR_iff.1 hE).2.2.2.2.2.2.2.2.2.2.2
set_option maxHeartbeats 1000000 in
theorem inRange_any (z s b q d h : Int) (w : World) :
    Calls Try.prog 45 #[confV z s b q d h] w fun e w' => e = .returned (.bool (inR z s b q d h)) ∧ Below w.heap.size w w' := by
  unfold confV
  go_enter Try.func45, Try.ntmps45
  go_wp2
  all_goals go_ret
  all_goals exact ⟨lay_b (by first | exact (inR_iff.2 (by omega)).symm | exact (inR_not (by omega)).symm | exact inR_last (by omega)), (Below.refl _ _).alloc (Nat.le_refl _) _⟩
theorem lay_info : (Try.prog.info? 41).map (·.size) = some 4 := by kernel_rfl
theorem conf_info : (Try.prog.info? 26).map (·.size) = some 6 := by kernel_rfl
theorem ret_lay {z s b q : Int} (s1 : 3 ≤ s) (s2 : s ≤ 64) (b1 : 1 ≤ b) (b2 : b ≤ 128) (z1 : 1 ≤ z) (z2 : z ≤ 32) (q1 : 1 ≤ q) (q2 : q ≤ 4) :
    Ending.returned (.agg #[.int .i64 ((b + 2 + s - 1) / s), .int .i64 (wrap64 (2 * ((b + 2 + s - 1) / s))), .int .i64 (wrap64 (z - wrap64 (2 * ((b + 2 + s - 1) / s)))),
      .int .i64 (wrap64 (wrap64 (wrap64 (wrap64 (wrap64 (z - wrap64 (2 * ((b + 2 + s - 1) / s))) - 3) * (s - 1)) - q) - 1))]) = .returned (layV z s b q) := by
  obtain ⟨l1, l2⟩ := slot_bounds s1 s2 b1 b2
  obtain ⟨⟨c1, c2⟩, c3, c4⟩ := cap_bounds s1 s2 b1 b2 z1 z2
  unfold layV capN
  unfold dataN at *
  rw [show (b + 2 + s - 1) / s = slotN s b from rfl]
  generalize slotN s b = k at *
  have e1 : wrap64 (2 * k) = 2 * k := by unfold wrap64; omega
  rw [e1]
  have e2 : wrap64 (z - 2 * k) = z - 2 * k := by unfold wrap64; omega
  rw [e2]
  have e3 : wrap64 (z - 2 * k - 3) = z - 2 * k - 3 := by unfold wrap64; omega
  rw [e3]
  generalize (z - 2 * k - 3) * (s - 1) = p at *
  have e4 : wrap64 p = p := by unfold wrap64; omega
  rw [e4]
  have e5 : wrap64 (p - q) = p - q := by unfold wrap64; omega
  rw [e5]
  have e6 : wrap64 (p - q - 1) = p - q - 1 := by unfold wrap64; omega
  rw [e6]
set_option maxHeartbeats 1000000 in
/-- the layout of numbers that are in their ranges -/
theorem planned_any (z s b q d h : Int) (w : World) (hr : inR z s b q d h = true) :
    Calls Try.prog 46 #[confV z s b q d h] w fun e w' => e = .returned (layV z s b q) ∧ Below w.heap.size w w' := by
  obtain ⟨s1, s2, z1, z2, b1, b2, q1, q2, _⟩ := inR_iff.1 hr
  have he := Lib.hid (ret_lay s1 s2 b1 b2 z1 z2 q1 q2)
  unfold confV
  go_enter Try.func46, Try.ntmps46
  go_wp2
  exact bodyPost_ret (results_cell_row rfl _ _ _ _ _ _ _ rfl (Plan.heap_second _ _ _) Try.underlying41 rfl lay_info) rfl ⟨he.out, ((Below.refl _ _).alloc (Nat.le_refl _) _).alloc (by simp) _⟩
set_option maxHeartbeats 1000000 in
/-- the same, by the document's own -/
theorem layRefof_any (z s b q d h : Int) (w : World) (hr : inR z s b q d h = true) :
    Calls Try.prog 29 #[confV z s b q d h] w fun e w' => e = .returned (layV z s b q) ∧ Below w.heap.size w w' := by
  obtain ⟨s1, s2, z1, z2, b1, b2, q1, q2, _⟩ := inR_iff.1 hr
  have he := Lib.hid (ret_lay s1 s2 b1 b2 z1 z2 q1 q2)
  unfold confV
  go_enter Try.func29, Try.ntmps29
  go_wp2
  exact bodyPost_ret (results_cell_row rfl _ _ _ _ _ _ _ rfl (Plan.heap_second _ _ _) Try.underlying41 rfl lay_info) rfl ⟨he.out, ((Below.refl _ _).alloc (Nat.le_refl _) _).alloc (by simp) _⟩
end Go.Proofs.Ytjdlekjikemdpaa

/- The walks of the layout's Of and Check, the program's and the document's own. -/
namespace Go.Proofs.Ytjdlekjikemdpaa
open Go.RowKit Plan LayMath
abbrev confRow (z s b q d h : Int) : Obj := .cells #[.int .i64 z, .int .i64 s, .int .i64 b, .int .i64 q, .int .i64 d, .int .i64 h] 26
abbrev layRow (x1 x2 x3 x4 : Int) : Obj := .cells #[.int .i64 x1, .int .i64 x2, .int .i64 x3, .int .i64 x4] 41
/-- what Of gives -/
def layE (z s b q d h : Int) : Value := if errN z s b q d h = 0 then layV z s b q else .agg #[.int .i64 0, .int .i64 0, .int .i64 0, .int .i64 0]
def ofV (z s b q d h : Int) : Value := .tuple #[layE z s b q d h, .int .i64 (errN z s b q d h)]
theorem lay_on {B g : Nat} {W w1 : World} {x : Option Obj} (hb : Below B W w1) (h : W.heap[g]? = x) (hg : g < B) : w1.heap[g]? = x := heap_old hb hg h
theorem lay_al {g : Nat} {w : World} {o : Obj} (h : w.heap[g]? = some o) (o2 : Obj) : (w.alloc o2).heap[g]? = some o := (Below.heap_alloc _ _ _ (Array.getElem?_eq_some_iff.1 h).1).trans h
theorem lay_lt {g : Nat} {w : World} {o : Obj} (h : w.heap[g]? = some o) : g < w.heap.size := (Array.getElem?_eq_some_iff.1 h).1
theorem lay4 {w : World} {g : Nat} {a b c d : Value} {t : TypeId} {fr : Nat × Nat} (h : w.heap[g]? = some (.cells #[a, b, c, d] t fr)) :
    g < w.heap.size ∧ w.cell? ⟨g, 0, none⟩ = some a ∧ w.cell? ⟨g, 1, none⟩ = some b ∧ w.cell? ⟨g, 2, none⟩ = some c ∧ w.cell? ⟨g, 3, none⟩ = some d :=
  ⟨(Array.getElem?_eq_some_iff.1 h).1, cell_of_row _ _ 0 _ _ _ h, cell_of_row _ _ 1 _ _ _ h, cell_of_row _ _ 2 _ _ _ h, cell_of_row _ _ 3 _ _ _ h⟩
theorem conf6 {w : World} {g : Nat} {a b c d e f : Value} {t : TypeId} {fr : Nat × Nat} (h : w.heap[g]? = some (.cells #[a, b, c, d, e, f] t fr)) :
    w.cell? ⟨g, 0, none⟩ = some a ∧ w.cell? ⟨g, 1, none⟩ = some b ∧ w.cell? ⟨g, 2, none⟩ = some c ∧ w.cell? ⟨g, 3, none⟩ = some d ∧ w.cell? ⟨g, 4, none⟩ = some e ∧ w.cell? ⟨g, 5, none⟩ = some f :=
  ⟨cell_of_row _ _ 0 _ _ _ h, cell_of_row _ _ 1 _ _ _ h, cell_of_row _ _ 2 _ _ _ h, cell_of_row _ _ 3 _ _ _ h, cell_of_row _ _ 4 _ _ _ h, cell_of_row _ _ 5 _ _ _ h⟩
/-- a load of a whole row at an operation with a guard that says yes -/
theorem load_lit_g {P : Program} {ops : Array Oper} {rest : List Oper} {a : Act} {w : World} {Q : Exit → Act → World → Prop} (ty : TypeId) (x : Operand) {dst : Option Tmp} {t' : TypeId} {pos : String} {after : Array Edge} {j : Nat} {y : Bool}
    (g : Nat) {t : TypeId} {cs : Array Value} {fr : Nat × Nat} {d : TypeDesc} (hw : Region.wanted ⟨dst, .load ty x, t', pos, after, some (j, y)⟩ (yielded ops a.tmps) = true) (hx : a.eval x = .pointer (some ⟨g, 0, none⟩)) (hg : w.heap[g]? = some (.cells cs t fr))
    (hu : P.underlying ty = some d) (hd : (match d with | .struct _ | .array _ _ => true | _ => false) = true) (hi : (P.info? ty).map (·.size) = some cs.size)
    (h : wpList P ops Q rest (a.put dst (.agg cs)) w) : wpList P ops Q (⟨dst, .load ty x, t', pos, after, some (j, y)⟩ :: rest) a w :=
  BigFrame.wpList_want hw fun _ hK => wp_load_row ty x rfl g hx t cs fr d hg hu hd hi (hK _ _ h)
theorem lay_eq {x y : Value} (h : x = y) : Ending.returned x = .returned y := by rw [h]
theorem of_out {z s b q d h : Int} (hr : inR z s b q d h = false) : ofV z s b q d h = .tuple #[.agg #[.int .i64 0, .int .i64 0, .int .i64 0, .int .i64 0], .int .i64 1] := by
  unfold ofV layE; rw [errN_out hr]; rfl
theorem of_tight {z s b q d h : Int} (hr : inR z s b q d h = true) (hf : dataN z s b < 6 ∨ capN z s b q < 1) : ofV z s b q d h = .tuple #[.agg #[.int .i64 0, .int .i64 0, .int .i64 0, .int .i64 0], .int .i64 11] := by
  unfold ofV layE; rw [errN_tight hr (by unfold fits; rcases hf with h | h <;> simp [h])]; rfl
theorem of_fit {z s b q d h : Int} (hr : inR z s b q d h = true) (h1 : 6 ≤ dataN z s b) (h2 : 1 ≤ capN z s b q) : ofV z s b q d h = .tuple #[layV z s b q, .int .i64 0] := by
  unfold ofV layE; rw [errN_fit hr (by unfold fits; simp; omega)]; rfl
set_option maxHeartbeats 1000000 in
theorem layOf_any (z s b q d h : Int) (w : World) :
    Calls Try.prog 38 #[confV z s b q d h] w fun e w' => e = .returned (ofV z s b q d h) ∧ Below w.heap.size w w' := by
  have hA := ((Below.refl w.heap.size w).alloc (Nat.le_refl _) (confRow z s b q d h)).alloc (by simp) (layRow 0 0 0 0)
  have hr0 := heap_second w (confRow z s b q d h) (layRow 0 0 0 0)
  have hx0 := lay_al (heap_alloc_new w (confRow z s b q d h)) (layRow 0 0 0 0)
  have hi := inRange_any z s b q d h
  have hp := fun w h0 => planned_any z s b q d h w h0
  have ho := @of_out z s b q d h
  have ht := @of_tight z s b q d h
  have hf := @of_fit z s b q d h
  unfold confV at *
  unfold layV at hp hf
  generalize dataN z s b = C at *
  generalize capN z s b q = D at *
  generalize slotN s b = A at *
  generalize 2 * A = B at *
  generalize ofV z s b q d h = R at *
  cases hr : inR z s b q d h
  · rw [hr] at hi ho
    have HI := Lib.hid hi
    have HO := Lib.hid (ho rfl)
    clear hi hp ho ht hf hr
    go_enter Try.func38, Try.ntmps38
    generalize hw0 : (w.alloc (confRow z s b q d h)).alloc (layRow 0 0 0 0) = w0 at *
    go_wp2_with (first
      | ((with_reducible refine Plan.load_lit 26 (.tmp 1) w.heap.size ?_ hx0 Try.underlying26 ?_ ?_ ?_); (· rfl); (· rfl); (· exact conf_info); simp only [Act.put, List.setIfInBounds_toArray, List.set_cons_zero, List.set_cons_succ])
      | (go_at_call 45; ((with_reducible refine (HI.out _).mono ?_); rintro e w1 ⟨rfl, hb1⟩; have hr1 := lay_on hb1 hr0 (lay_lt hr0); have hx1 := lay_on hb1 hx0 (lay_lt hx0); have b1 := hA.trans (hb1.mono hA.size)))
      | ((with_reducible refine Plan.store_lit 41 (.tmp 2) _ (w.heap.size + 1) ?_ hr1 ?_ ?_ ?_ ?_ ?_ ?_); rotate_left; (· rfl); (· rfl); (· exact lay_info); (· rfl); (· simp [Value.oneCell']); simp only [Act.put]))
    exact bodyPost_ret (Plan.results_cell_tmp (p := 2) (q := 3) rfl _ _ _ _ _ _ _ rfl (setRow_heap _ _ _ _ _ _ hr1) Try.underlying41 rfl lay_info) rfl ⟨lay_eq HO.out.symm, below_setRow b1 (show w.heap.size ≤ w.heap.size + 1 by omega) _⟩
  · rw [hr] at hi
    have HI := Lib.hid hi
    have HT := Lib.hid (ht hr)
    have HF := Lib.hid (hf hr)
    have HP := Lib.hid fun w => hp w hr
    clear hi hp ho ht hf hr
    go_enter Try.func38, Try.ntmps38
    generalize hw0 : (w.alloc (confRow z s b q d h)).alloc (layRow 0 0 0 0) = w0 at *
    go_wp2_with (first
      | (go_at_call 45; ((with_reducible refine (HI.out _).mono ?_); rintro e w1 ⟨rfl, hb1⟩; have hr1 := lay_on hb1 hr0 (lay_lt hr0); have hx1 := lay_on hb1 hx0 (lay_lt hx0); have b1 := hA.trans (hb1.mono hA.size)))
      | (go_at_call 46; ((with_reducible refine (HP.out _).mono ?_); rintro e w2 ⟨rfl, hb2⟩; have hr2 := lay_al (lay_on hb2 hr1 (lay_lt hr1)) (layRow A B C D); have b2 := (b1.trans (hb2.mono b1.size)).alloc (b1.trans (hb2.mono b1.size)).size (layRow A B C D); have hx2 := heap_alloc_new w2 (layRow A B C D)))
      | ((with_reducible refine Plan.load_lit 26 (.tmp 1) w.heap.size ?_ hx1 Try.underlying26 ?_ ?_ ?_); (· rfl); (· rfl); (· exact conf_info); simp only [Act.put, List.setIfInBounds_toArray, List.set_cons_zero, List.set_cons_succ])
      | ((with_reducible refine Plan.load_lit 26 (.tmp 1) w.heap.size ?_ hx0 Try.underlying26 ?_ ?_ ?_); (· rfl); (· rfl); (· exact conf_info); simp only [Act.put, List.setIfInBounds_toArray, List.set_cons_zero, List.set_cons_succ])
      | ((with_reducible refine Plan.load_lit 41 (.tmp 4) w2.heap.size ?_ hx2 Try.underlying41 ?_ ?_ ?_); (· rfl); (· rfl); (· exact lay_info); simp only [Act.put, List.setIfInBounds_toArray, List.set_cons_zero, List.set_cons_succ])
      | ((with_reducible refine Plan.store_lit 41 (.tmp 2) _ (w.heap.size + 1) ?_ hr2 ?_ ?_ ?_ ?_ ?_ ?_); rotate_left; (· rfl); (· rfl); (· exact lay_info); (· rfl); (· simp [Value.oneCell']); simp only [Act.put]))
    all_goals exact bodyPost_ret (Plan.results_cell_tmp (p := 2) (q := 3) rfl _ _ _ _ _ _ _ rfl (setRow_heap _ _ _ _ _ _ hr2) Try.underlying41 rfl lay_info) rfl ⟨by first | exact lay_eq (HT.out (.inl (by assumption))).symm | exact lay_eq (HT.out (.inr (by assumption))).symm | exact lay_eq (HT.out (by assumption)).symm | exact lay_eq (HF.out (by omega) (by omega)).symm, below_setRow b2 (show w.heap.size ≤ w.heap.size + 1 by omega) _⟩
end Go.Proofs.Ytjdlekjikemdpaa
