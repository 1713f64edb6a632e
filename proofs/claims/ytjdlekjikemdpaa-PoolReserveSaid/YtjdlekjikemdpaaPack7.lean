/- Texts that belong together, part 7. -/
import Derived.Test.YtjdlekjikemdpaaPack6

/- The walks of the layout's Check and IsData and of the document's Check, Of and IsData. -/
namespace Go.Proofs.Ytjdlekjikemdpaa
open Go.RowKit Plan LayMath
theorem layE_agg (z s b q d h : Int) : ∃ x1 x2 x3 x4 : Int, layE z s b q d h = .agg #[.int .i64 x1, .int .i64 x2, .int .i64 x3, .int .i64 x4] ∧ (errN z s b q d h = 0 → x1 = slotN s b ∧ x2 = 2 * slotN s b ∧ x3 = dataN z s b ∧ x4 = capN z s b q) := by
  unfold layE layV
  split
  · exact ⟨_, _, _, _, rfl, fun _ => ⟨rfl, rfl, rfl, rfl⟩⟩
  · exact ⟨_, _, _, _, rfl, fun h => by contradiction⟩
set_option maxHeartbeats 1000000 in
theorem layCheck_any (z s b q d h : Int) (w : World) :
    Calls Try.prog 35 #[confV z s b q d h] w fun e w' => e = .returned (.int .i64 (errN z s b q d h)) ∧ Below w.heap.size w w' := by
  have hA := (Below.refl w.heap.size w).alloc (Nat.le_refl _) (confRow z s b q d h)
  have ho := layOf_any z s b q d h
  obtain ⟨x1, x2, x3, x4, hx, -⟩ := layE_agg z s b q d h
  unfold ofV at ho
  rw [hx] at ho
  unfold confV at *
  generalize errN z s b q d h = E at *
  have HO := Lib.hid ho
  clear ho hx
  go_enter Try.func35, Try.ntmps35
  go_wp2_with (first
    | (go_at_call 38; ((with_reducible refine (HO.out _).mono ?_); rintro e w1 ⟨rfl, hb1⟩; have b1 := hA.trans (hb1.mono hA.size); have b2 := b1.alloc b1.size (layRow x1 x2 x3 x4))))
  go_ret
  exact ⟨rfl, b2⟩
set_option maxHeartbeats 2000000 in
theorem layRefCheck_any (z s b q d h : Int) (w : World) :
    Calls Try.prog 28 #[confV z s b q d h] w fun e w' => e = .returned (.int .i64 (errN z s b q d h)) ∧ Below w.heap.size w w' := by
  have hA := (Below.refl w.heap.size w).alloc (Nat.le_refl _) (confRow z s b q d h)
  have hp := fun w h0 => layRefof_any z s b q d h w h0
  have ho := @errN_out z s b q d h
  have ht := @errN_tight z s b q d h
  have hf := @errN_fit z s b q d h
  have hn := @inR_not z s b q d h
  have hy := (@inR_iff z s b q d h).2
  unfold confV at *
  unfold layV at hp
  unfold fits at ht hf
  generalize dataN z s b = C at *
  generalize capN z s b q = D at *
  generalize slotN s b = A at *
  generalize 2 * A = B at *
  generalize errN z s b q d h = R at *
  generalize inR z s b q d h = I at *
  have HO := Lib.hid ho
  have HT := Lib.hid ht
  have HF := Lib.hid hf
  have HN := Lib.hid hn
  have HY := Lib.hid hy
  have HP := Lib.hid hp
  clear hp ho ht hf hn hy
  go_enter Try.func28, Try.ntmps28
  go_wp2_with (first
    | (go_at_call 29; ((with_reducible refine (HP.out _ (HY.out (by omega))).mono ?_); rintro e w1 ⟨rfl, hb1⟩; have b1 := hA.trans (hb1.mono hA.size); have b2 := b1.alloc b1.size (layRow A B C D); have hY : I = true := HY.out (by omega))))
  all_goals go_ret
  all_goals first
    | exact ⟨ret_i64 (HO.out (HN.out (by omega))).symm, hA⟩
    | exact ⟨ret_i64 (HF.out hY (by simp; omega)).symm, b2⟩
    | exact ⟨ret_i64 (HT.out hY (by simp; omega)).symm, b2⟩
end Go.Proofs.Ytjdlekjikemdpaa

/- The walks of the document's Of and of IsData, the program's and the document's. -/
namespace Go.Proofs.Ytjdlekjikemdpaa
open Go.RowKit Plan LayMath
theorem of_zero {z s b q d h : Int} (he : errN z s b q d h = 0) : ofV z s b q d h = .tuple #[layV z s b q, .int .i64 0] := by
  unfold ofV layE; rw [he]; rfl
theorem of_err {z s b q d h : Int} (he : ¬ errN z s b q d h = 0) : ofV z s b q d h = .tuple #[.agg #[.int .i64 0, .int .i64 0, .int .i64 0, .int .i64 0], .int .i64 (errN z s b q d h)] := by
  unfold ofV layE; rw [if_neg he]
set_option maxHeartbeats 1000000 in
theorem layRefOf_any (z s b q d h : Int) (w : World) :
    Calls Try.prog 17 #[confV z s b q d h] w fun e w' => e = .returned (ofV z s b q d h) ∧ Below w.heap.size w w' := by
  have hA := ((Below.refl w.heap.size w).alloc (Nat.le_refl _) (confRow z s b q d h)).alloc (by simp) (layRow 0 0 0 0)
  have hr0 := heap_second w (confRow z s b q d h) (layRow 0 0 0 0)
  have hx0 := lay_al (heap_alloc_new w (confRow z s b q d h)) (layRow 0 0 0 0)
  have hi := layRefCheck_any z s b q d h
  have hp := fun w h0 => layRefof_any z s b q d h w h0
  have ho := @of_err z s b q d h
  have ht := @of_zero z s b q d h
  have hI := @errN_zero z s b q d h
  unfold confV at *
  unfold layV at hp ht
  generalize dataN z s b = C at *
  generalize capN z s b q = D at *
  generalize slotN s b = A at *
  generalize 2 * A = B at *
  generalize ofV z s b q d h = R at *
  generalize errN z s b q d h = E at *
  by_cases hE : E = 0
  · have HP := Lib.hid fun w => hp w (hI hE).1
    have HT := Lib.hid (ht hE)
    subst hE
    have HI := Lib.hid hi
    clear hi hp ho ht hI
    go_enter Try.func17, Try.ntmps17
    generalize hw0 : (w.alloc (confRow z s b q d h)).alloc (layRow 0 0 0 0) = w0 at *
    go_wp2_with (first
      | (go_at_call 28; ((with_reducible refine (HI.out _).mono ?_); rintro e w1 ⟨rfl, hb1⟩; have hr1 := lay_on hb1 hr0 (lay_lt hr0); have hx1 := lay_on hb1 hx0 (lay_lt hx0); have b1 := hA.trans (hb1.mono hA.size)))
      | (go_at_call 29; ((with_reducible refine (HP.out _).mono ?_); rintro e w2 ⟨rfl, hb2⟩; have hr2 := lay_on hb2 hr1 (lay_lt hr1); have b2 := b1.trans (hb2.mono b1.size)))
      | ((with_reducible refine Plan.load_lit 26 (.tmp 1) w.heap.size ?_ hx1 Try.underlying26 ?_ ?_ ?_); (· rfl); (· rfl); (· exact conf_info); simp only [Act.put, List.setIfInBounds_toArray, List.set_cons_zero, List.set_cons_succ])
      | ((with_reducible refine Plan.load_lit 26 (.tmp 1) w.heap.size ?_ hx0 Try.underlying26 ?_ ?_ ?_); (· rfl); (· rfl); (· exact conf_info); simp only [Act.put, List.setIfInBounds_toArray, List.set_cons_zero, List.set_cons_succ])
      | ((with_reducible refine Plan.store_lit 41 (.tmp 2) _ (w.heap.size + 1) ?_ hr2 ?_ ?_ ?_ ?_ ?_ ?_); rotate_left; (· rfl); (· rfl); (· exact lay_info); (· rfl); (· simp [Value.oneCell']); simp only [Act.put]))
    exact bodyPost_ret (Plan.results_cell_tmp (p := 2) (q := 3) rfl _ _ _ _ _ _ _ rfl (setRow_heap _ _ _ _ _ _ hr2) Try.underlying41 rfl lay_info) rfl ⟨lay_eq HT.out.symm, below_setRow b2 (show w.heap.size ≤ w.heap.size + 1 by omega) _⟩
  · have HO := Lib.hid (ho hE)
    have hE2 : (E != 0) = true := by simpa using hE
    have HI := Lib.hid hi
    clear hi hp ho ht hI hE
    go_enter Try.func17, Try.ntmps17
    generalize hw0 : (w.alloc (confRow z s b q d h)).alloc (layRow 0 0 0 0) = w0 at *
    go_wp2_with (first
      | (go_at_call 28; ((with_reducible refine (HI.out _).mono ?_); rintro e w1 ⟨rfl, hb1⟩; have hr1 := lay_on hb1 hr0 (lay_lt hr0); have b1 := hA.trans (hb1.mono hA.size)))
      | ((with_reducible refine Plan.load_lit 26 (.tmp 1) w.heap.size ?_ hx0 Try.underlying26 ?_ ?_ ?_); (· rfl); (· rfl); (· exact conf_info); simp only [Act.put, List.setIfInBounds_toArray, List.set_cons_zero, List.set_cons_succ])
      | ((with_reducible refine Plan.store_lit 41 (.tmp 2) _ (w.heap.size + 1) ?_ hr1 ?_ ?_ ?_ ?_ ?_ ?_); rotate_left; (· rfl); (· rfl); (· exact lay_info); (· rfl); (· simp [Value.oneCell']); simp only [Act.put]))
    exact bodyPost_ret (Plan.results_cell_tmp (p := 2) (q := 3) rfl _ _ _ _ _ _ _ rfl (setRow_heap _ _ _ _ _ _ hr1) Try.underlying41 rfl lay_info) rfl ⟨lay_eq HO.out.symm, below_setRow b1 (show w.heap.size ≤ w.heap.size + 1 by omega) _⟩
/-- is a zone for data -/
def isN (z s b q d h n : Int) : Bool := decide (errN z s b q d h = 0) && decide (2 * slotN s b ≤ n) && decide (n < z)
theorem isN_no {z s b q d h n : Int} (hE : ¬ errN z s b q d h = 0) : isN z s b q d h n = false := by simp [isN, hE]
theorem isN_yes {z s b q d h n : Int} (hE : errN z s b q d h = 0) : isN z s b q d h n = (decide (2 * slotN s b ≤ n) && decide (n < z)) := by simp [isN, hE]
set_option maxHeartbeats 1000000 in
theorem isData_any (z s b q d h n : Int) (w : World) :
    Calls Try.prog 30 #[confV z s b q d h, .int .i64 n] w fun e w' => e = .returned (.bool (isN z s b q d h n)) ∧ Below w.heap.size w w' := by
  have hA := (Below.refl w.heap.size w).alloc (Nat.le_refl _) (confRow z s b q d h)
  have hx0 := heap_alloc_new w (confRow z s b q d h)
  have ho := layOf_any z s b q d h
  have hn := @isN_no z s b q d h n
  have hy := @isN_yes z s b q d h n
  obtain ⟨x1, x2, x3, x4, hx, hx2⟩ := layE_agg z s b q d h
  unfold ofV at ho
  rw [hx] at ho
  clear hx
  unfold confV at *
  generalize errN z s b q d h = E at *
  generalize isN z s b q d h n = R at *
  have HO := Lib.hid ho
  clear ho
  by_cases hE : E = 0
  · obtain ⟨-, e2, -⟩ := hx2 hE
    rw [← e2] at hy
    have HY := Lib.hid (hy hE)
    clear hn hy hx2 e2
    subst hE
    go_enter Try.func30, Try.ntmps30
    generalize hw0 : w.alloc (confRow z s b q d h) = w0 at *
    go_wp2_with (first
      | (go_at_call 38; ((with_reducible refine (HO.out _).mono ?_); rintro e w1 ⟨rfl, hb1⟩; have b1 := hA.trans (hb1.mono hA.size); have b2 := b1.alloc b1.size (layRow x1 x2 x3 x4); have hx3 := lay_al (lay_on hb1 hx0 (lay_lt hx0)) (layRow x1 x2 x3 x4); obtain ⟨d0, -⟩ := conf6 hx3))
      | ((with_reducible refine Plan.load_lit 26 (.tmp 2) w.heap.size ?_ hx0 Try.underlying26 ?_ ?_ ?_); (· rfl); (· rfl); (· exact conf_info); simp only [Act.put, List.setIfInBounds_toArray, List.set_cons_zero, List.set_cons_succ]))
    all_goals go_ret
    all_goals first
      | exact ⟨lay_b (by rw [HY.out]; have h9 := decide_eq_true (show x2 ≤ n by omega); simp [h9]), b2⟩
      | exact ⟨lay_b (by rw [HY.out]; have h9 := decide_eq_false (show ¬ x2 ≤ n by omega); simp [h9]), b2⟩
  · have HN := Lib.hid (hn hE)
    have hE2 : (E == 0) = false := by simpa using hE
    clear hn hy hx2 hE
    go_enter Try.func30, Try.ntmps30
    generalize hw0 : w.alloc (confRow z s b q d h) = w0 at *
    go_wp2_with (first
      | (go_at_call 38; ((with_reducible refine (HO.out _).mono ?_); rintro e w1 ⟨rfl, hb1⟩; have b1 := hA.trans (hb1.mono hA.size); have b2 := b1.alloc b1.size (layRow x1 x2 x3 x4); have hx3 := lay_al (lay_on hb1 hx0 (lay_lt hx0)) (layRow x1 x2 x3 x4); obtain ⟨d0, -⟩ := conf6 hx3))
      | ((with_reducible refine Plan.load_lit 26 (.tmp 2) w.heap.size ?_ hx0 Try.underlying26 ?_ ?_ ?_); (· rfl); (· rfl); (· exact conf_info); simp only [Act.put, List.setIfInBounds_toArray, List.set_cons_zero, List.set_cons_succ]))
    go_ret
    exact ⟨lay_b HN.out.symm, b2⟩
set_option maxHeartbeats 1000000 in
theorem refIsData_any (z s b q d h n : Int) (w : World) :
    Calls Try.prog 26 #[confV z s b q d h, .int .i64 n] w fun e w' => e = .returned (.bool (isN z s b q d h n)) ∧ Below w.heap.size w w' := by
  have hA := (Below.refl w.heap.size w).alloc (Nat.le_refl _) (confRow z s b q d h)
  have hx0 := heap_alloc_new w (confRow z s b q d h)
  have hi := layRefCheck_any z s b q d h
  have hp := fun w h0 => layRefof_any z s b q d h w h0
  have hI := @errN_zero z s b q d h
  have hn := @isN_no z s b q d h n
  have hy := @isN_yes z s b q d h n
  unfold confV at *
  unfold layV at hp
  generalize dataN z s b = C at *
  generalize capN z s b q = D at *
  generalize slotN s b = A at *
  generalize 2 * A = B at *
  generalize errN z s b q d h = E at *
  generalize isN z s b q d h n = R at *
  by_cases hE : E = 0
  · have HP := Lib.hid fun w => hp w (hI hE).1
    have HY := Lib.hid (hy hE)
    subst hE
    have HI := Lib.hid hi
    clear hi hp hn hy hI
    have hfd : ∀ w : World, (Instr.field 41 (.agg #[.int .i64 A, .int .i64 B, .int .i64 C, .int .i64 D]) 1).run Try.prog w = .ok (.int .i64 B) w := fun _ => by kernel_rfl
    go_enter Try.func26, Try.ntmps26
    generalize hw0 : w.alloc (confRow z s b q d h) = w0 at *
    go_wp2_with (first
      | (go_at_call 28; ((with_reducible refine (HI.out _).mono ?_); rintro e w1 ⟨rfl, hb1⟩; have hx1 := lay_on hb1 hx0 (lay_lt hx0); have b1 := hA.trans (hb1.mono hA.size)))
      | (go_at_call 29; ((with_reducible refine (HP.out _).mono ?_); rintro e w2 ⟨rfl, hb2⟩; have hx2 := lay_on hb2 hx1 (lay_lt hx1); have b2 := b1.trans (hb2.mono b1.size); obtain ⟨d0, -⟩ := conf6 hx2))
      | ((with_reducible refine load_lit_g 26 (.tmp 2) w.heap.size ?_ ?_ hx1 Try.underlying26 ?_ ?_ ?_); (· rfl); (· rfl); (· rfl); (· exact conf_info); simp only [Act.put, List.setIfInBounds_toArray, List.set_cons_zero, List.set_cons_succ])
      | ((with_reducible refine Plan.load_lit 26 (.tmp 2) w.heap.size ?_ hx0 Try.underlying26 ?_ ?_ ?_); (· rfl); (· rfl); (· exact conf_info); simp only [Act.put, List.setIfInBounds_toArray, List.set_cons_zero, List.set_cons_succ]))
    all_goals go_ret
    all_goals first
      | exact ⟨lay_b (by rw [HY.out]; have h9 := decide_eq_true (show B ≤ n by omega); simp [h9]), b2⟩
      | exact ⟨lay_b (by rw [HY.out]; have h9 := decide_eq_false (show ¬ B ≤ n by omega); simp [h9]), b2⟩
  · have HN := Lib.hid (hn hE)
    have hE2 : (E == 0) = false := by simpa using hE
    have HI := Lib.hid hi
    clear hi hp hn hy hI hE
    go_enter Try.func26, Try.ntmps26
    generalize hw0 : w.alloc (confRow z s b q d h) = w0 at *
    go_wp2_with (first
      | (go_at_call 28; ((with_reducible refine (HI.out _).mono ?_); rintro e w1 ⟨rfl, hb1⟩; have b1 := hA.trans (hb1.mono hA.size)))
      | ((with_reducible refine Plan.load_lit 26 (.tmp 2) w.heap.size ?_ hx0 Try.underlying26 ?_ ?_ ?_); (· rfl); (· rfl); (· exact conf_info); simp only [Act.put, List.setIfInBounds_toArray, List.set_cons_zero, List.set_cons_succ]))
    go_ret
    exact ⟨lay_b HN.out.symm, b1⟩
end Go.Proofs.Ytjdlekjikemdpaa

/- The index of a list and the store of a number there, as one step. -/
namespace Go.Proofs.Ytjdlekjikemdpaa.Put
open Go.RowKit
theorem idx_store_int {ops : Array Oper} {rest : List Oper} {a : Act} {w : World} {Q : Exit → Act → World → Prop} (tt ty : TypeId) (d : Tmp) (s i y : Operand) {t1 t' : TypeId} {pos1 pos : String} {after1 after : Array Edge}
    (g o : Nat) (k : IntKind) (n : Int) (hv : (execOp a.eval ⟨some d, .indexAddr tt s i, t1, pos1, after1, none⟩).run Try.prog w = .ok (.value (.pointer (some ⟨g, o, none⟩))) w)
    (hx : (a.put (some d) (.pointer (some ⟨g, o, none⟩))).eval (.tmp d) = .pointer (some ⟨g, o, none⟩)) (hy : (a.put (some d) (.pointer (some ⟨g, o, none⟩))).eval y = .int k n) (hc : ∃ u, w.cell? ⟨g, o, none⟩ = some u) (hf : w.frozen? ⟨g, o, none⟩ = false) (hi : (Try.prog.info? ty).map (·.size) = some 1)
    (h : ∀ w', w' = w.setCell ⟨g, o, none⟩ (.int k n) → wpList Try.prog ops Q rest ((a.put (some d) (.pointer (some ⟨g, o, none⟩))).put none undef) w') :
    wpList Try.prog ops Q (⟨some d, .indexAddr tt s i, t1, pos1, after1, none⟩ :: ⟨none, .store ty (.tmp d) y, t', pos, after, none⟩ :: rest) a w :=
  wpList_plain rfl fun _ hK => by
    unfold Oper.wp
    rw [hv]
    exact hK _ _ (wpList_plain rfl fun _ hK => wp_store_int ty (.tmp d) y rfl g o k n hx hy hc hf hi (hK _ _ (h _ rfl)))
end Go.Proofs.Ytjdlekjikemdpaa.Put
