
/- The walks of the program's Check and Zero of commands. -/
import Derived.Test.YtolpnlemaoabkaaDoorCmdOk
import Derived.Test.YtolpnlemaoabkaaDoorCmdPLeaf
import Derived.Test.YtolpnlemaoabkaaDoorShelf
namespace Go.Proofs.YtolpnlemaoabkaaDoor.Ents
open Go.RowKit Plan LayMath CmdMath
set_option maxHeartbeats 4000000 in
set_option maxRecDepth 20000 in
theorem mayC_any (cz cs cb cq cd ch k b : Int) (s : ByteArray) (w : World) :
    Calls Tryd.prog 13 #[confV cz cs cb cq cd ch, cmdV k b s] w fun r w' => r = .returned (.bool (mayB cb k b)) ∧ Below w.heap.size w w' := by
  unfold confV mayB
  have hA := ((Below.refl w.heap.size w).alloc (Nat.le_refl _) (confRow cz cs cb cq cd ch)).alloc (by simp) (cmdRow k b s)
  have hcf : ((w.alloc (confRow cz cs cb cq cd ch)).alloc (cmdRow k b s)).cell? ⟨w.heap.size, 2, none⟩ = some (.int .i64 cb) := cell_of_row _ _ 2 _ _ _ ((Below.heap_alloc _ _ _ (by simp)).trans (heap_alloc_new w (confRow cz cs cb cq cd ch)))
  obtain ⟨c0, c1, c2⟩ := cmd_cells (w := (w.alloc (confRow cz cs cb cq cd ch)).alloc (cmdRow k b s)) (g := w.heap.size + 1) (by have := heap_alloc_new (w.alloc (confRow cz cs cb cq cd ch)) (cmdRow k b s); rwa [World.size_alloc] at this)
  by_cases h4 : k = 4
  · subst h4
    rw [if_pos rfl]
    go_enter Tryd.func13, Tryd.ntmps13
    generalize hw0 : (w.alloc (confRow cz cs cb cq cd ch)).alloc (cmdRow _ b s) = w0 at *
    go_wp2
    all_goals go_ret
    all_goals exact ⟨by simp [BEq.beq], hA⟩
  · rw [if_neg h4]
    have d4 : (k == 4) = false := by simpa using h4
    clear h4
    by_cases h1 : 0 ≤ b
    · by_cases h2 : b < cb
      · go_enter Tryd.func13, Tryd.ntmps13
        generalize hw0 : (w.alloc (confRow cz cs cb cq cd ch)).alloc (cmdRow _ b s) = w0 at *
        go_wp2
        all_goals go_ret
        all_goals exact ⟨by simp [h1, h2], hA⟩
      · go_enter Tryd.func13, Tryd.ntmps13
        generalize hw0 : (w.alloc (confRow cz cs cb cq cd ch)).alloc (cmdRow _ b s) = w0 at *
        go_wp2
        all_goals go_ret
        all_goals exact ⟨by simp [h2], hA⟩
    · go_enter Tryd.func13, Tryd.ntmps13
      generalize hw0 : (w.alloc (confRow cz cs cb cq cd ch)).alloc (cmdRow _ b s) = w0 at *
      go_wp2
      all_goals go_ret
      all_goals exact ⟨by simp; omega, hA⟩
set_option maxHeartbeats 4000000 in
set_option maxRecDepth 20000 in
theorem check_any (cz cs cb cq cd ch k b : Int) (s : ByteArray) (w : World) (_ : s.size ≤ maxLen) :
    Calls Tryd.prog 6 #[confV cz cs cb cq cd ch, cmdV k b s] w fun r w' => r = .returned (.int .i64 (checkC cb k b s.size)) ∧ Below w.heap.size w w' := by
  have H1 := Lib.hid (fun W => isKindC_any k W)
  have H2 := Lib.hid (fun W => mayC_any cz cs cb cq cd ch k b s W)
  have H3 := Lib.hid (fun W => dataC_any k W)
  unfold confV at *
  have K := ((Bxs.start w).al (confRow cz cs cb cq cd ch)).al (cmdRow k b s)
  rw [World.size_alloc] at K
  by_cases hk : 1 ≤ k ∧ k ≤ 4
  · have e1 : (decide (1 ≤ k) && decide (k ≤ 4)) = true := by simp [hk.1, hk.2]
    rw [e1] at H1
    clear e1
    cases hM : mayB cb k b
    · rw [check_range (by omega) (mayB_no hM)]
      rw [hM] at H2
      clear hM hk
      go_enter Tryd.func6, Tryd.ntmps6
      generalize hw0 : (w.alloc (confRow cz cs cb cq cd ch)).alloc (cmdRow k b s) = w0 at *
      have hC0 : w0.heap[w.heap.size]? = some (confRow cz cs cb cq cd ch) := K.get 1 rfl
      have hX0 : w0.heap[w.heap.size + 1]? = some (cmdRow k b s) := K.get 0 rfl
      obtain ⟨c0, c1, c2⟩ := cmd_cells hX0
      go_wp2_with (first
        | ((with_reducible refine Plan.load_lit 23 (.tmp 2) w.heap.size ?_ hC0 Tryd.underlying23 ?_ ?_ ?_); (· rfl); (· rfl); (· exact conf_info); simp only [Act.put, List.setIfInBounds_toArray, List.set_cons_zero, List.set_cons_succ])
        | ((with_reducible refine Plan.load_lit 25 (.tmp 3) (w.heap.size + 1) ?_ hX0 Tryd.underlying25 ?_ ?_ ?_); (· rfl); (· rfl); (· exact cmd_info); simp only [Act.put, List.setIfInBounds_toArray, List.set_cons_zero, List.set_cons_succ])
        | (go_at_call 12; ((with_reducible refine (H1.out _).mono ?_); rintro r9 w9 ⟨rfl, rfl⟩))
        | (go_at_call 13; ((with_reducible refine (H2.out _).mono ?_); rintro r9 w1 ⟨rfl, h1⟩; have K1 := K.on h1)))
      go_ret
      exact ⟨rfl, K1.hb⟩
    · have hm := mayB_yes hM
      rw [hM] at H2
      clear hM
      by_cases h5 : (s.size : Int) = dataB k
      · have e2 : checkC cb k b s.size = 0 := check_fine (by omega) hm (by unfold dataB at h5; split at h5 <;> omega)
        rw [e2]
        have d5 : ((s.size : Int) != dataB k) = false := by simp [h5]
        generalize dataB k = DK at *
        clear e2 h5 hk hm
        go_enter Tryd.func6, Tryd.ntmps6
        generalize hw0 : (w.alloc (confRow cz cs cb cq cd ch)).alloc (cmdRow k b s) = w0 at *
        have hC0 : w0.heap[w.heap.size]? = some (confRow cz cs cb cq cd ch) := K.get 1 rfl
        have hX0 : w0.heap[w.heap.size + 1]? = some (cmdRow k b s) := K.get 0 rfl
        obtain ⟨c0, c1, c2⟩ := cmd_cells hX0
        go_wp2_with (first
          | ((with_reducible refine Plan.load_lit 23 (.tmp 2) w.heap.size ?_ hC0 Tryd.underlying23 ?_ ?_ ?_); (· rfl); (· rfl); (· exact conf_info); simp only [Act.put, List.setIfInBounds_toArray, List.set_cons_zero, List.set_cons_succ])
          | ((with_reducible refine Plan.load_lit 25 (.tmp 3) (w.heap.size + 1) ?_ hX0 Tryd.underlying25 ?_ ?_ ?_); (· rfl); (· rfl); (· exact cmd_info); simp only [Act.put, List.setIfInBounds_toArray, List.set_cons_zero, List.set_cons_succ])
          | (go_at_call 12; ((with_reducible refine (H1.out _).mono ?_); rintro r9 w9 ⟨rfl, rfl⟩))
          | (go_at_call 13; ((with_reducible refine (H2.out _).mono ?_); rintro r9 w1 ⟨rfl, h1⟩; have K1 := K.on h1)))
        clear hw0 hC0 hX0 c0 c1 c2 h1 K
        refine Plan.start (fun W => W.cell? ⟨w.heap.size + 1, 0, none⟩ = some (.int .i64 k) ∧ W.cell? ⟨w.heap.size + 1, 2, none⟩ = some (.string s)) [(0, true), (1, true), (2, true), (3, true), (4, true), (5, false), (6, true), (7, true)] (by kernel_rfl) (by kernel_rfl) (by kernel_rfl) (by kernel_rfl) ⟨(cmd_cells (K1.drew.get 0 rfl)).1, (cmd_cells (K1.drew.get 0 rfl)).2.2⟩ ?_
        simp only [List.map_cons, List.map_nil, List.getElem?_toArray, List.getElem?_cons_zero, List.getElem?_cons_succ]
        have K := K1.drew
        clear K1
        generalize w1.drew = w2 at *
        repeat (first | (refine Plan.take ?_ (by rfl) ?_ ?_; rotate_left; (· rintro w9 ⟨u0, u1⟩; go_simp; (try rw [if_neg (by omega)]); all_goals (with_reducible rfl)); simp only [Act.put, List.setIfInBounds_toArray, List.set_cons_zero, List.set_cons_succ]) | (refine Plan.pass (by rfl) ?_; simp only [Act.put, List.setIfInBounds_toArray, List.set_cons_zero, List.set_cons_succ]))
        refine Plan.call (by rfl) 14 _ ?_ (H3.out _) ?_
        · go_simp
        rintro r9 w9 ⟨rfl, rfl⟩
        refine ⟨_, rfl, ⟨(cmd_cells (K.get 0 rfl)).1, (cmd_cells (K.get 0 rfl)).2.2⟩, ?_⟩
        simp only [Act.put, List.setIfInBounds_toArray, List.set_cons_zero, List.set_cons_succ]
        repeat (first | (refine Plan.take ?_ (by rfl) ?_ ?_; rotate_left; (· rintro w9 ⟨u0, u1⟩; go_simp; (try rw [if_neg (by omega)]); all_goals (with_reducible rfl)); simp only [Act.put, List.setIfInBounds_toArray, List.set_cons_zero, List.set_cons_succ]) | (refine Plan.pass (by rfl) ?_; simp only [Act.put, List.setIfInBounds_toArray, List.set_cons_zero, List.set_cons_succ]))
        refine Plan.ends ?_
        go_wp2_with fail
        go_ret
        exact ⟨rfl, K.hb⟩
      · have e2 : checkC cb k b s.size = 2 := check_size (by omega) hm (by unfold dataB at h5; split at h5 <;> omega)
        rw [e2]
        have d5 : ((s.size : Int) != dataB k) = true := by simp [h5]
        generalize dataB k = DK at *
        clear e2 h5 hk hm
        go_enter Tryd.func6, Tryd.ntmps6
        generalize hw0 : (w.alloc (confRow cz cs cb cq cd ch)).alloc (cmdRow k b s) = w0 at *
        have hC0 : w0.heap[w.heap.size]? = some (confRow cz cs cb cq cd ch) := K.get 1 rfl
        have hX0 : w0.heap[w.heap.size + 1]? = some (cmdRow k b s) := K.get 0 rfl
        obtain ⟨c0, c1, c2⟩ := cmd_cells hX0
        go_wp2_with (first
          | ((with_reducible refine Plan.load_lit 23 (.tmp 2) w.heap.size ?_ hC0 Tryd.underlying23 ?_ ?_ ?_); (· rfl); (· rfl); (· exact conf_info); simp only [Act.put, List.setIfInBounds_toArray, List.set_cons_zero, List.set_cons_succ])
          | ((with_reducible refine Plan.load_lit 25 (.tmp 3) (w.heap.size + 1) ?_ hX0 Tryd.underlying25 ?_ ?_ ?_); (· rfl); (· rfl); (· exact cmd_info); simp only [Act.put, List.setIfInBounds_toArray, List.set_cons_zero, List.set_cons_succ])
          | (go_at_call 12; ((with_reducible refine (H1.out _).mono ?_); rintro r9 w9 ⟨rfl, rfl⟩))
          | (go_at_call 13; ((with_reducible refine (H2.out _).mono ?_); rintro r9 w1 ⟨rfl, h1⟩; have K1 := K.on h1)))
        clear hw0 hC0 hX0 c0 c1 c2 h1 K
        refine Plan.start (fun W => W.cell? ⟨w.heap.size + 1, 0, none⟩ = some (.int .i64 k) ∧ W.cell? ⟨w.heap.size + 1, 2, none⟩ = some (.string s)) [(0, true), (1, true), (2, true), (3, true), (4, true), (5, false), (6, true), (7, true)] (by kernel_rfl) (by kernel_rfl) (by kernel_rfl) (by kernel_rfl) ⟨(cmd_cells (K1.drew.get 0 rfl)).1, (cmd_cells (K1.drew.get 0 rfl)).2.2⟩ ?_
        simp only [List.map_cons, List.map_nil, List.getElem?_toArray, List.getElem?_cons_zero, List.getElem?_cons_succ]
        have K := K1.drew
        clear K1
        generalize w1.drew = w2 at *
        repeat (first | (refine Plan.take ?_ (by rfl) ?_ ?_; rotate_left; (· rintro w9 ⟨u0, u1⟩; go_simp; (try rw [if_neg (by omega)]); all_goals (with_reducible rfl)); simp only [Act.put, List.setIfInBounds_toArray, List.set_cons_zero, List.set_cons_succ]) | (refine Plan.pass (by rfl) ?_; simp only [Act.put, List.setIfInBounds_toArray, List.set_cons_zero, List.set_cons_succ]))
        refine Plan.call (by rfl) 14 _ ?_ (H3.out _) ?_
        · go_simp
        rintro r9 w9 ⟨rfl, rfl⟩
        refine ⟨_, rfl, ⟨(cmd_cells (K.get 0 rfl)).1, (cmd_cells (K.get 0 rfl)).2.2⟩, ?_⟩
        simp only [Act.put, List.setIfInBounds_toArray, List.set_cons_zero, List.set_cons_succ]
        repeat (first | (refine Plan.take ?_ (by rfl) ?_ ?_; rotate_left; (· rintro w9 ⟨u0, u1⟩; go_simp; (try rw [if_neg (by omega)]); all_goals (with_reducible rfl)); simp only [Act.put, List.setIfInBounds_toArray, List.set_cons_zero, List.set_cons_succ]) | (refine Plan.pass (by rfl) ?_; simp only [Act.put, List.setIfInBounds_toArray, List.set_cons_zero, List.set_cons_succ]))
        refine Plan.ends ?_
        go_wp2_with fail
        go_ret
        exact ⟨rfl, K.hb⟩
  · have e1 : (decide (1 ≤ k) && decide (k ≤ 4)) = false := by by_cases h1 : 1 ≤ k <;> simp [h1] <;> omega
    rw [e1] at H1
    rw [check_out (by omega)]
    clear e1 hk
    go_enter Tryd.func6, Tryd.ntmps6
    generalize hw0 : (w.alloc (confRow cz cs cb cq cd ch)).alloc (cmdRow k b s) = w0 at *
    have hX0 : w0.heap[w.heap.size + 1]? = some (cmdRow k b s) := K.get 0 rfl
    obtain ⟨c0, c1, c2⟩ := cmd_cells hX0
    go_wp2_with (first
      | (go_at_call 12; ((with_reducible refine (H1.out _).mono ?_); rintro r9 w9 ⟨rfl, rfl⟩)))
    go_ret
    exact ⟨rfl, K.hb⟩
theorem zero_any (w : World) : Calls Tryd.prog 10 #[] w fun r w' => r = .returned (.string zeroC) ∧ Below w.heap.size w w' := by
  have hr : ∀ W : World, Calls Tryd.prog 15 #[.string ⟨#[0]⟩, .int .i64 16] W fun e W' => e = .returned (.string zeroC) ∧ Below W.heap.size W W' := fun W => Tryd.strings_Repeat ⟨#[0]⟩ 16 W (by omega) (by show 1 * 16 ≤ _; omega)
  have HR := Lib.hid hr
  go_enter Tryd.func10, Tryd.ntmps10
  go_wp2_with (first
    | (go_at_call 15; ((with_reducible refine (HR.out _).mono ?_); rintro e w1 ⟨rfl, hb1⟩)))
  go_ret
  exact ⟨rfl, hb1⟩
theorem commandOk : CommandOk where
  check := check_any
  zero := zero_any
end Go.Proofs.YtolpnlemaoabkaaDoor.Ents
