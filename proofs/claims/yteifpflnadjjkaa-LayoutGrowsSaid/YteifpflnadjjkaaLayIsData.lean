
/- The walks of the document's Of and of IsData, the program's and the document's. -/
import Derived.Test.YteifpflnadjjkaaLayCheck
namespace Go.Proofs.Yteifpflnadjjkaa
open Go.RowKit Plan LayMath
theorem of_zero {z s b q d h : Int} (he : errN z s b q d h = 0) : ofV z s b q d h = .tuple #[layV z s b q, .int .i64 0] := by
  unfold ofV layE; rw [he]; rfl
theorem of_err {z s b q d h : Int} (he : ¬ errN z s b q d h = 0) : ofV z s b q d h = .tuple #[.agg #[.int .i64 0, .int .i64 0, .int .i64 0, .int .i64 0], .int .i64 (errN z s b q d h)] := by
  unfold ofV layE; rw [if_neg he]
set_option maxHeartbeats 1000000 in
theorem layRefOf_any (z s b q d h : Int) (w : World) :
    Calls Try.prog 8 #[confV z s b q d h] w fun e w' => e = .returned (ofV z s b q d h) ∧ Below w.heap.size w w' := by
  have hA := ((Below.refl w.heap.size w).alloc (Nat.le_refl _) (confRow z s b q d h)).alloc (by simp) (layRow 0 0 0 0)
  have hr0 := heap_second w (confRow z s b q d h) (layRow 0 0 0 0)
  have hx0 := lay_al (heap_alloc_new w (confRow z s b q d h)) (layRow 0 0 0 0)
  have hi := layRefCheck_any z s b q d h
  have hp := fun w h0 => layRefof_any z s b q d h w h0
  have ho := @of_err z s b q d h
  have ht := @of_zero z s b q d h
  have hI := @errN_zero z s b q d h
  unfold confV at *
  unfold layV at hp ht
  generalize dataN z s b = C at *
  generalize capN z s b q = D at *
  generalize slotN s b = A at *
  generalize 2 * A = B at *
  generalize ofV z s b q d h = R at *
  generalize errN z s b q d h = E at *
  by_cases hE : E = 0
  · have HP := Lib.hid fun w => hp w (hI hE).1
    have HT := Lib.hid (ht hE)
    subst hE
    have HI := Lib.hid hi
    clear hi hp ho ht hI
    go_enter Try.func8, Try.ntmps8
    generalize hw0 : (w.alloc (confRow z s b q d h)).alloc (layRow 0 0 0 0) = w0 at *
    go_wp2_with (first
      | (go_at_call 11; ((with_reducible refine (HI.out _).mono ?_); rintro e w1 ⟨rfl, hb1⟩; have hr1 := lay_on hb1 hr0 (lay_lt hr0); have hx1 := lay_on hb1 hx0 (lay_lt hx0); have b1 := hA.trans (hb1.mono hA.size)))
      | (go_at_call 23; ((with_reducible refine (HP.out _).mono ?_); rintro e w2 ⟨rfl, hb2⟩; have hr2 := lay_on hb2 hr1 (lay_lt hr1); have b2 := b1.trans (hb2.mono b1.size)))
      | ((with_reducible refine Plan.load_lit 23 (.tmp 1) w.heap.size ?_ hx1 Try.underlying23 ?_ ?_ ?_); (· rfl); (· rfl); (· exact conf_info); simp only [Act.put, List.setIfInBounds_toArray, List.set_cons_zero, List.set_cons_succ])
      | ((with_reducible refine Plan.load_lit 23 (.tmp 1) w.heap.size ?_ hx0 Try.underlying23 ?_ ?_ ?_); (· rfl); (· rfl); (· exact conf_info); simp only [Act.put, List.setIfInBounds_toArray, List.set_cons_zero, List.set_cons_succ])
      | ((with_reducible refine Plan.store_lit 25 (.tmp 2) _ (w.heap.size + 1) ?_ hr2 ?_ ?_ ?_ ?_ ?_ ?_); rotate_left; (· rfl); (· rfl); (· exact lay_info); (· rfl); (· simp [Value.oneCell']); simp only [Act.put]))
    exact bodyPost_ret (Plan.results_cell_tmp (p := 2) (q := 3) rfl _ _ _ _ _ _ _ rfl (setRow_heap _ _ _ _ _ _ hr2) Try.underlying25 rfl lay_info) rfl ⟨lay_eq HT.out.symm, below_setRow b2 (show w.heap.size ≤ w.heap.size + 1 by omega) _⟩
  · have HO := Lib.hid (ho hE)
    have hE2 : (E != 0) = true := by simpa using hE
    have HI := Lib.hid hi
    clear hi hp ho ht hI hE
    go_enter Try.func8, Try.ntmps8
    generalize hw0 : (w.alloc (confRow z s b q d h)).alloc (layRow 0 0 0 0) = w0 at *
    go_wp2_with (first
      | (go_at_call 11; ((with_reducible refine (HI.out _).mono ?_); rintro e w1 ⟨rfl, hb1⟩; have hr1 := lay_on hb1 hr0 (lay_lt hr0); have b1 := hA.trans (hb1.mono hA.size)))
      | ((with_reducible refine Plan.load_lit 23 (.tmp 1) w.heap.size ?_ hx0 Try.underlying23 ?_ ?_ ?_); (· rfl); (· rfl); (· exact conf_info); simp only [Act.put, List.setIfInBounds_toArray, List.set_cons_zero, List.set_cons_succ])
      | ((with_reducible refine Plan.store_lit 25 (.tmp 2) _ (w.heap.size + 1) ?_ hr1 ?_ ?_ ?_ ?_ ?_ ?_); rotate_left; (· rfl); (· rfl); (· exact lay_info); (· rfl); (· simp [Value.oneCell']); simp only [Act.put]))
    exact bodyPost_ret (Plan.results_cell_tmp (p := 2) (q := 3) rfl _ _ _ _ _ _ _ rfl (setRow_heap _ _ _ _ _ _ hr1) Try.underlying25 rfl lay_info) rfl ⟨lay_eq HO.out.symm, below_setRow b1 (show w.heap.size ≤ w.heap.size + 1 by omega) _⟩
/-- is a zone for data -/
def isN (z s b q d h n : Int) : Bool := decide (errN z s b q d h = 0) && decide (2 * slotN s b ≤ n) && decide (n < z)
theorem isN_no {z s b q d h n : Int} (hE : ¬ errN z s b q d h = 0) : isN z s b q d h n = false := by simp [isN, hE]
theorem isN_yes {z s b q d h n : Int} (hE : errN z s b q d h = 0) : isN z s b q d h n = (decide (2 * slotN s b ≤ n) && decide (n < z)) := by simp [isN, hE]
set_option maxHeartbeats 1000000 in
theorem isData_any (z s b q d h n : Int) (w : World) :
    Calls Try.prog 15 #[confV z s b q d h, .int .i64 n] w fun e w' => e = .returned (.bool (isN z s b q d h n)) ∧ Below w.heap.size w w' := by
  have hA := (Below.refl w.heap.size w).alloc (Nat.le_refl _) (confRow z s b q d h)
  have hx0 := heap_alloc_new w (confRow z s b q d h)
  have ho := layOf_any z s b q d h
  have hn := @isN_no z s b q d h n
  have hy := @isN_yes z s b q d h n
  obtain ⟨x1, x2, x3, x4, hx, hx2⟩ := layE_agg z s b q d h
  unfold ofV at ho
  rw [hx] at ho
  clear hx
  unfold confV at *
  generalize errN z s b q d h = E at *
  generalize isN z s b q d h n = R at *
  have HO := Lib.hid ho
  clear ho
  by_cases hE : E = 0
  · obtain ⟨-, e2, -⟩ := hx2 hE
    rw [← e2] at hy
    have HY := Lib.hid (hy hE)
    clear hn hy hx2 e2
    subst hE
    go_enter Try.func15, Try.ntmps15
    generalize hw0 : w.alloc (confRow z s b q d h) = w0 at *
    go_wp2_with (first
      | (go_at_call 7; ((with_reducible refine (HO.out _).mono ?_); rintro e w1 ⟨rfl, hb1⟩; have b1 := hA.trans (hb1.mono hA.size); have b2 := b1.alloc b1.size (layRow x1 x2 x3 x4); have hx3 := lay_al (lay_on hb1 hx0 (lay_lt hx0)) (layRow x1 x2 x3 x4); obtain ⟨d0, -⟩ := conf6 hx3))
      | ((with_reducible refine Plan.load_lit 23 (.tmp 2) w.heap.size ?_ hx0 Try.underlying23 ?_ ?_ ?_); (· rfl); (· rfl); (· exact conf_info); simp only [Act.put, List.setIfInBounds_toArray, List.set_cons_zero, List.set_cons_succ]))
    all_goals go_ret
    all_goals first
      | exact ⟨lay_b (by rw [HY.out]; have h9 := decide_eq_true (show x2 ≤ n by omega); simp [h9]), b2⟩
      | exact ⟨lay_b (by rw [HY.out]; have h9 := decide_eq_false (show ¬ x2 ≤ n by omega); simp [h9]), b2⟩
  · have HN := Lib.hid (hn hE)
    have hE2 : (E == 0) = false := by simpa using hE
    clear hn hy hx2 hE
    go_enter Try.func15, Try.ntmps15
    generalize hw0 : w.alloc (confRow z s b q d h) = w0 at *
    go_wp2_with (first
      | (go_at_call 7; ((with_reducible refine (HO.out _).mono ?_); rintro e w1 ⟨rfl, hb1⟩; have b1 := hA.trans (hb1.mono hA.size); have b2 := b1.alloc b1.size (layRow x1 x2 x3 x4); have hx3 := lay_al (lay_on hb1 hx0 (lay_lt hx0)) (layRow x1 x2 x3 x4); obtain ⟨d0, -⟩ := conf6 hx3))
      | ((with_reducible refine Plan.load_lit 23 (.tmp 2) w.heap.size ?_ hx0 Try.underlying23 ?_ ?_ ?_); (· rfl); (· rfl); (· exact conf_info); simp only [Act.put, List.setIfInBounds_toArray, List.set_cons_zero, List.set_cons_succ]))
    go_ret
    exact ⟨lay_b HN.out.symm, b2⟩
set_option maxHeartbeats 1000000 in
theorem refIsData_any (z s b q d h n : Int) (w : World) :
    Calls Try.prog 16 #[confV z s b q d h, .int .i64 n] w fun e w' => e = .returned (.bool (isN z s b q d h n)) ∧ Below w.heap.size w w' := by
  have hA := (Below.refl w.heap.size w).alloc (Nat.le_refl _) (confRow z s b q d h)
  have hx0 := heap_alloc_new w (confRow z s b q d h)
  have hi := layRefCheck_any z s b q d h
  have hp := fun w h0 => layRefof_any z s b q d h w h0
  have hI := @errN_zero z s b q d h
  have hn := @isN_no z s b q d h n
  have hy := @isN_yes z s b q d h n
  unfold confV at *
  unfold layV at hp
  generalize dataN z s b = C at *
  generalize capN z s b q = D at *
  generalize slotN s b = A at *
  generalize 2 * A = B at *
  generalize errN z s b q d h = E at *
  generalize isN z s b q d h n = R at *
  by_cases hE : E = 0
  · have HP := Lib.hid fun w => hp w (hI hE).1
    have HY := Lib.hid (hy hE)
    subst hE
    have HI := Lib.hid hi
    clear hi hp hn hy hI
    have hfd : ∀ w : World, (Instr.field 25 (.agg #[.int .i64 A, .int .i64 B, .int .i64 C, .int .i64 D]) 1).run Try.prog w = .ok (.int .i64 B) w := fun _ => by kernel_rfl
    go_enter Try.func16, Try.ntmps16
    generalize hw0 : w.alloc (confRow z s b q d h) = w0 at *
    go_wp2_with (first
      | (go_at_call 11; ((with_reducible refine (HI.out _).mono ?_); rintro e w1 ⟨rfl, hb1⟩; have hx1 := lay_on hb1 hx0 (lay_lt hx0); have b1 := hA.trans (hb1.mono hA.size)))
      | (go_at_call 23; ((with_reducible refine (HP.out _).mono ?_); rintro e w2 ⟨rfl, hb2⟩; have hx2 := lay_on hb2 hx1 (lay_lt hx1); have b2 := b1.trans (hb2.mono b1.size); obtain ⟨d0, -⟩ := conf6 hx2))
      | ((with_reducible refine load_lit_g 23 (.tmp 2) w.heap.size ?_ ?_ hx1 Try.underlying23 ?_ ?_ ?_); (· rfl); (· rfl); (· rfl); (· exact conf_info); simp only [Act.put, List.setIfInBounds_toArray, List.set_cons_zero, List.set_cons_succ])
      | ((with_reducible refine Plan.load_lit 23 (.tmp 2) w.heap.size ?_ hx0 Try.underlying23 ?_ ?_ ?_); (· rfl); (· rfl); (· exact conf_info); simp only [Act.put, List.setIfInBounds_toArray, List.set_cons_zero, List.set_cons_succ]))
    all_goals go_ret
    all_goals first
      | exact ⟨lay_b (by rw [HY.out]; have h9 := decide_eq_true (show B ≤ n by omega); simp [h9]), b2⟩
      | exact ⟨lay_b (by rw [HY.out]; have h9 := decide_eq_false (show ¬ B ≤ n by omega); simp [h9]), b2⟩
  · have HN := Lib.hid (hn hE)
    have hE2 : (E == 0) = false := by simpa using hE
    have HI := Lib.hid hi
    clear hi hp hn hy hI hE
    go_enter Try.func16, Try.ntmps16
    generalize hw0 : w.alloc (confRow z s b q d h) = w0 at *
    go_wp2_with (first
      | (go_at_call 11; ((with_reducible refine (HI.out _).mono ?_); rintro e w1 ⟨rfl, hb1⟩; have b1 := hA.trans (hb1.mono hA.size)))
      | ((with_reducible refine Plan.load_lit 23 (.tmp 2) w.heap.size ?_ hx0 Try.underlying23 ?_ ?_ ?_); (· rfl); (· rfl); (· exact conf_info); simp only [Act.put, List.setIfInBounds_toArray, List.set_cons_zero, List.set_cons_succ]))
    go_ret
    exact ⟨lay_b HN.out.symm, b1⟩
end Go.Proofs.Yteifpflnadjjkaa
