/- The walks of the copy: the program's and the document's own, for any record. -/
import Derived.Test.YthpfkmdnpfgjlaaRecDecRef
namespace Go.Proofs.Ythpfkmdnpfgjlaa
open Go.RowKit Plan

theorem copyOk_no {k b v m : Int} {p : ByteArray} (h : RecMath.checkE (mk k b v m p) ≠ 0 ∨ (k ≠ 1 ∧ k ≠ 2)) : RecMath.copyOk (mk k b v m p) = false := by
  unfold RecMath.copyOk
  rcases h with h | h
  · simp [h]
  · have e : (mk k b v m p).kind = k := rfl
    rw [e]; simp [h]
theorem copyOk_yes {k b v m : Int} {p : ByteArray} (h : RecMath.checkE (mk k b v m p) = 0) (hk : k = 1 ∨ k = 2) : RecMath.copyOk (mk k b v m p) = true := by
  unfold RecMath.copyOk
  have e : (mk k b v m p).kind = k := rfl
  rw [e, h]; rcases hk with hk | hk <;> simp [hk]
theorem copy_no {r : RecMath.Rec} (h : RecMath.copyOk r = false) : recV (RecMath.copy r) = #[.int .i64 0, .int .i64 0, .int .i64 0, .int .i64 0, .string ⟨#[]⟩] := by
  unfold RecMath.copy
  rw [h, if_neg (by decide), zero_rec]
theorem copy_yes {k b v m : Int} {p : ByteArray} (h : RecMath.copyOk (mk k b v m p) = true) : recV (RecMath.copy (mk k b v m p)) = #[.int .i64 k, .int .i64 b, .int .i64 v, .int .i64 (min (m + 1) 255), .string p] := by
  unfold RecMath.copy
  rw [h, if_pos rfl]
  simp only [recV, mk]
theorem setCell_row {w : World} {g : Nat} {cur : Array Value} {t : TypeId} {fr : Nat × Nat} (hg : w.heap[g]? = some (.cells cur t fr)) (i : Nat) (v : Value) :
    (w.setCell ⟨g, i, none⟩ v).heap[g]? = some (.cells (cur.setIfInBounds i v) t fr) := by
  rw [setCell_eq_setRow w g i cur t fr v hg]
  exact setRow_heap w g cur _ t fr hg
set_option maxHeartbeats 1000000 in
theorem copy_any (k b v m : Int) (p : ByteArray) (w : World) :
    Calls Try.prog 11 #[.agg #[.int .i64 k, .int .i64 b, .int .i64 v, .int .i64 m, .string p]] w fun e w' => e = .returned (.tuple #[.agg (recV (RecMath.copy (mk k b v m p))), .bool (RecMath.copyOk (mk k b v m p))]) ∧ Below w.heap.size w w' := by
  have hc := check_any k b v m p
  by_cases h : RecMath.checkE (mk k b v m p) = 0
  · by_cases h1 : k = 1 ∨ k = 2
    · have ho := copyOk_yes h h1
      rw [copy_yes ho, ho]
      obtain ⟨-, -, -, -, -, -, m1, m2, -⟩ := RecMath.check_ok h
      simp only [mk] at m1 m2
      rw [h] at hc
      have HC := Lib.hid hc
      clear hc ho h
      rcases h1 with rfl | rfl
      all_goals
        go_enter Try.func11, Try.ntmps11
        go_wp2_with (first
          | (go_at_call 13; ((with_reducible refine (HC.out _).mono ?_); rintro e w1 ⟨rfl, hb1⟩; obtain ⟨hc1, hf1⟩ := bcell hb1; have hr1 := heap_old hb1 (g := w.heap.size) (by simp; omega) (heap_first _ _ _); have hr2 := setCell_row hr1 3 (.int .i64 (min (m + 1) 255)); simp only [List.setIfInBounds_toArray, List.set_cons_succ, List.set_cons_zero] at hr2; have hr3 := (Below.heap_setCell w1 ⟨w.heap.size, 3, none⟩ (.int .i64 (min (m + 1) 255)) (w.heap.size + 1) (by simp)).trans (heap_old hb1 (by simp) (heap_second _ _ _)); have hb3 := (((((Below.refl w.heap.size w).alloc (Nat.le_refl _) _).alloc (by simp) _)).trans (hb1.mono (by simp; omega))).setCell (p := ⟨w.heap.size, 3, none⟩) (by simp) (.int .i64 (min (m + 1) 255))))
          | ((with_reducible refine Plan.load_lit 23 (.tmp 1) w.heap.size ?_ hr2 Try.underlying23 ?_ ?_ ?_); (· rfl); (· rfl); (· exact rec_info); simp only [Act.put, List.setIfInBounds_toArray, List.set_cons_zero, List.set_cons_succ])
          | ((with_reducible refine Plan.store_lit 23 (.tmp 2) _ (w.heap.size + 1) ?_ hr3 ?_ ?_ ?_ ?_ ?_ ?_); rotate_left; (· rfl); (· rfl); (· exact rec_info); (· rfl); (· simp [Value.oneCell']); simp only [Act.put]))
        exact bodyPost_ret (Plan.results_cell_tmp (p := 2) (q := 3) rfl _ _ _ _ _ _ _ rfl (setRow_heap _ _ _ _ _ _ hr3) Try.underlying23 rfl rec_info) rfl ⟨rfl, below_setRow hb3 (by simp) _⟩
    · have h1' : k ≠ 1 ∧ k ≠ 2 := by omega
      have ho := copyOk_no (b := b) (v := v) (m := m) (p := p) (Or.inr h1')
      rw [copy_no ho, ho]
      have d1 : (k != 1) = true := by simpa using h1'.1
      have d2 : (k != 2) = true := by simpa using h1'.2
      rw [h] at hc
      have HC := Lib.hid hc
      clear hc ho h h1 h1'
      go_enter Try.func11, Try.ntmps11
      go_wp2_with (first
        | (go_at_call 13; ((with_reducible refine (HC.out _).mono ?_); rintro e w1 ⟨rfl, hb1⟩; obtain ⟨hc1, hf1⟩ := bcell hb1))
        | ((with_reducible refine Plan.store_lit 23 (.tmp 2) _ (w.heap.size + 1) ?_ (heap_old hb1 (by simp) (heap_second _ _ _)) ?_ ?_ ?_ ?_ ?_ ?_); rotate_left; (· rfl); (· rfl); (· exact rec_info); (· rfl); (· simp [Value.oneCell']); simp only [Act.put]))
      exact bodyPost_ret (Plan.results_cell_tmp (p := 2) (q := 3) rfl _ _ _ _ _ _ _ rfl (setRow_heap _ _ _ _ _ _ (heap_old hb1 (by simp) (heap_second _ _ _))) Try.underlying23 rfl rec_info) rfl ⟨rfl, below_setRow (((((Below.refl _ _).alloc (Nat.le_refl _) _).alloc (by simp) _)).trans (hb1.mono (by simp; omega))) (by simp) _⟩
  · have ho := copyOk_no (Or.inl h)
    rw [copy_no ho, ho]
    generalize RecMath.checkE (mk k b v m p) = E at *
    have hE : (E != 0) = true := by simpa using h
    have HC := Lib.hid hc
    clear hc ho h
    go_enter Try.func11, Try.ntmps11
    go_wp2_with (first
      | (go_at_call 13; ((with_reducible refine (HC.out _).mono ?_); rintro e w1 ⟨rfl, hb1⟩; obtain ⟨hc1, hf1⟩ := bcell hb1))
      | ((with_reducible refine Plan.store_lit 23 (.tmp 2) _ (w.heap.size + 1) ?_ (heap_old hb1 (by simp) (heap_second _ _ _)) ?_ ?_ ?_ ?_ ?_ ?_); rotate_left; (· rfl); (· rfl); (· exact rec_info); (· rfl); (· simp [Value.oneCell']); simp only [Act.put]))
    exact bodyPost_ret (Plan.results_cell_tmp (p := 2) (q := 3) rfl _ _ _ _ _ _ _ rfl (setRow_heap _ _ _ _ _ _ (heap_old hb1 (by simp) (heap_second _ _ _))) Try.underlying23 rfl rec_info) rfl ⟨rfl, below_setRow (((((Below.refl _ _).alloc (Nat.le_refl _) _).alloc (by simp) _)).trans (hb1.mono (by simp; omega))) (by simp) _⟩
set_option maxHeartbeats 1000000 in
theorem refCopy_any (k b v m : Int) (p : ByteArray) (w : World) :
    Calls Try.prog 12 #[.agg #[.int .i64 k, .int .i64 b, .int .i64 v, .int .i64 m, .string p]] w fun e w' => e = .returned (.tuple #[.agg (recV (RecMath.copy (mk k b v m p))), .bool (RecMath.copyOk (mk k b v m p))]) ∧ Below w.heap.size w w' := by
  have hc := refCheck_any k b v m p
  by_cases h : RecMath.checkE (mk k b v m p) = 0
  · by_cases h1 : k = 1 ∨ k = 2
    · have ho := copyOk_yes h h1
      rw [copy_yes ho, ho]
      obtain ⟨-, -, -, -, -, -, m1, m2, -⟩ := RecMath.check_ok h
      simp only [mk] at m1 m2
      rw [h] at hc
      have HC := Lib.hid hc
      clear hc ho h
      rcases h1 with rfl | rfl
      all_goals
        go_enter Try.func12, Try.ntmps12
        go_wp2_with (first
          | (go_at_call 14; ((with_reducible refine (HC.out _).mono ?_); rintro e w1 ⟨rfl, hb1⟩; obtain ⟨hc1, hf1⟩ := bcell hb1; have hr1 := heap_old hb1 (g := w.heap.size) (by simp; omega) (heap_first _ _ _); have hr2 := setCell_row hr1 3 (.int .i64 (min (m + 1) 255)); simp only [List.setIfInBounds_toArray, List.set_cons_succ, List.set_cons_zero] at hr2; have hr3 := (Below.heap_setCell w1 ⟨w.heap.size, 3, none⟩ (.int .i64 (min (m + 1) 255)) (w.heap.size + 1) (by simp)).trans (heap_old hb1 (by simp) (heap_second _ _ _)); have hb3 := (((((Below.refl w.heap.size w).alloc (Nat.le_refl _) _).alloc (by simp) _)).trans (hb1.mono (by simp; omega))).setCell (p := ⟨w.heap.size, 3, none⟩) (by simp) (.int .i64 (min (m + 1) 255))))
          | ((with_reducible refine Plan.load_lit 23 (.tmp 1) w.heap.size ?_ hr2 Try.underlying23 ?_ ?_ ?_); (· rfl); (· rfl); (· exact rec_info); simp only [Act.put, List.setIfInBounds_toArray, List.set_cons_zero, List.set_cons_succ])
          | ((with_reducible refine Plan.store_lit 23 (.tmp 2) _ (w.heap.size + 1) ?_ hr3 ?_ ?_ ?_ ?_ ?_ ?_); rotate_left; (· rfl); (· rfl); (· exact rec_info); (· rfl); (· simp [Value.oneCell']); simp only [Act.put]))
        exact bodyPost_ret (Plan.results_cell_tmp (p := 2) (q := 3) rfl _ _ _ _ _ _ _ rfl (setRow_heap _ _ _ _ _ _ hr3) Try.underlying23 rfl rec_info) rfl ⟨rfl, below_setRow hb3 (by simp) _⟩
    · have h1' : k ≠ 1 ∧ k ≠ 2 := by omega
      have ho := copyOk_no (b := b) (v := v) (m := m) (p := p) (Or.inr h1')
      rw [copy_no ho, ho]
      have d1 : (k != 1) = true := by simpa using h1'.1
      have d2 : (k != 2) = true := by simpa using h1'.2
      rw [h] at hc
      have HC := Lib.hid hc
      clear hc ho h h1 h1'
      go_enter Try.func12, Try.ntmps12
      go_wp2_with (first
        | (go_at_call 14; ((with_reducible refine (HC.out _).mono ?_); rintro e w1 ⟨rfl, hb1⟩; obtain ⟨hc1, hf1⟩ := bcell hb1))
        | ((with_reducible refine Plan.store_lit 23 (.tmp 2) _ (w.heap.size + 1) ?_ (heap_old hb1 (by simp) (heap_second _ _ _)) ?_ ?_ ?_ ?_ ?_ ?_); rotate_left; (· rfl); (· rfl); (· exact rec_info); (· rfl); (· simp [Value.oneCell']); simp only [Act.put]))
      exact bodyPost_ret (Plan.results_cell_tmp (p := 2) (q := 3) rfl _ _ _ _ _ _ _ rfl (setRow_heap _ _ _ _ _ _ (heap_old hb1 (by simp) (heap_second _ _ _))) Try.underlying23 rfl rec_info) rfl ⟨rfl, below_setRow (((((Below.refl _ _).alloc (Nat.le_refl _) _).alloc (by simp) _)).trans (hb1.mono (by simp; omega))) (by simp) _⟩
  · have ho := copyOk_no (Or.inl h)
    rw [copy_no ho, ho]
    generalize RecMath.checkE (mk k b v m p) = E at *
    have hE : (E != 0) = true := by simpa using h
    have HC := Lib.hid hc
    clear hc ho h
    go_enter Try.func12, Try.ntmps12
    go_wp2_with (first
      | (go_at_call 14; ((with_reducible refine (HC.out _).mono ?_); rintro e w1 ⟨rfl, hb1⟩; obtain ⟨hc1, hf1⟩ := bcell hb1))
      | ((with_reducible refine Plan.store_lit 23 (.tmp 2) _ (w.heap.size + 1) ?_ (heap_old hb1 (by simp) (heap_second _ _ _)) ?_ ?_ ?_ ?_ ?_ ?_); rotate_left; (· rfl); (· rfl); (· exact rec_info); (· rfl); (· simp [Value.oneCell']); simp only [Act.put]))
    exact bodyPost_ret (Plan.results_cell_tmp (p := 2) (q := 3) rfl _ _ _ _ _ _ _ rfl (setRow_heap _ _ _ _ _ _ (heap_old hb1 (by simp) (heap_second _ _ _))) Try.underlying23 rfl rec_info) rfl ⟨rfl, below_setRow (((((Below.refl _ _).alloc (Nat.le_refl _) _).alloc (by simp) _)).trans (hb1.mono (by simp; omega))) (by simp) _⟩
end Go.Proofs.Ythpfkmdnpfgjlaa
