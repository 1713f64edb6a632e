/- Texts that belong together, part 11. -/
import Derived.Test.YtkamadeekkccgaaPack10

/- The walks of the program's small functions of histories: names, dataBytes, fits, call, isPossible, the closure of place. -/
namespace Go.Proofs.Ytkamadeekkccgaa.Ents
open Go.RowKit Plan HisMath Rws Env LayMath CmdMath
set_option maxHeartbeats 4000000 in
set_option maxRecDepth 20000 in
theorem hisNames_any (k b c : Int) (s : ByteArray) (w : World) :
    Calls Try.prog 32 #[cmdV k b s, .int .i64 c] w fun r w' => r = .returned (.bool (decide (b = c) && (decide (k = 1) || decide (k = 2) || decide (k = 3)))) ∧ Below w.heap.size w w' := by
  have K := (Env.start w).al (cmdRow k b s)
  obtain ⟨q, d2⟩ : ∃ q, (b == c) = q := ⟨_, rfl⟩
  rw [show decide (b = c) = q from d2]
  have hc : k = 1 ∨ k = 2 ∨ k = 3 ∨ (k ≠ 1 ∧ k ≠ 2 ∧ k ≠ 3) := by omega
  rcases hc with rfl | rfl | rfl | ⟨h1, h2, h3⟩
  · skip
    go_enter Try.func32, Try.ntmps32
    obtain ⟨c0, c1, c2⟩ := cmd_cells (K.get 0 rfl)
    go_wp2_with fail
    go_ret
    exact ⟨by simp, K.hb⟩
  · skip
    go_enter Try.func32, Try.ntmps32
    obtain ⟨c0, c1, c2⟩ := cmd_cells (K.get 0 rfl)
    go_wp2_with fail
    go_ret
    exact ⟨by simp, K.hb⟩
  · skip
    go_enter Try.func32, Try.ntmps32
    obtain ⟨c0, c1, c2⟩ := cmd_cells (K.get 0 rfl)
    go_wp2_with fail
    go_ret
    exact ⟨by simp, K.hb⟩
  · have e1 : (k == 1) = false := by simpa using h1
    have e2 : (k == 2) = false := by simpa using h2
    have e3 : (k == 3) = false := by simpa using h3
    have e4 : (q && (decide (k = 1) || decide (k = 2) || decide (k = 3))) = false := by simp [h1, h2, h3]
    rw [e4]
    clear e4
    go_enter Try.func32, Try.ntmps32
    obtain ⟨c0, c1, c2⟩ := cmd_cells (K.get 0 rfl)
    go_wp2_with fail
    go_ret
    exact ⟨rfl, K.hb⟩
set_option maxHeartbeats 4000000 in
set_option maxRecDepth 20000 in
theorem hisBytes_any (k b : Int) (s : ByteArray) (w : World) :
    Calls Try.prog 41 #[cmdV k b s] w fun r w' => r = .returned (.int .i64 (if k = 1 then 16 else 0)) ∧ Below w.heap.size w w' := by
  have K := (Env.start w).al (cmdRow k b s)
  by_cases h1 : k = 1
  · subst h1
    rw [if_pos rfl]
    go_enter Try.func41, Try.ntmps41
    obtain ⟨c0, c1, c2⟩ := cmd_cells (K.get 0 rfl)
    go_wp2_with fail
    go_ret
    exact ⟨rfl, K.hb⟩
  · rw [if_neg h1]
    have e1 : (k == 1) = false := by simpa using h1
    go_enter Try.func41, Try.ntmps41
    obtain ⟨c0, c1, c2⟩ := cmd_cells (K.get 0 rfl)
    go_wp2_with fail
    go_ret
    exact ⟨rfl, K.hb⟩
set_option maxHeartbeats 8000000 in
set_option maxRecDepth 20000 in
theorem hisFits_any (k b e : Int) (s x : ByteArray) (w : World) :
    Calls Try.prog 40 #[cmdV k b s, .agg #[.int .i64 e, .string x]] w fun r w' => r = .returned (.bool (fitsB k e x.size)) ∧ Below w.heap.size w w' := by
  have K := ((Env.start w).al (cmdRow k b s)).al (.cells #[.int .i64 e, .string x] 34)
  simp only [World.size_alloc] at K
  have HB := Lib.hid (fun W => hisBytes_any k b s W)
  have hcases : e = 0 ∨ e = 7 ∨ e = 1 ∨ e = 2 ∨ e = 3 ∨ e = 12 ∨ (e ≠ 0 ∧ e ≠ 7 ∧ e ≠ 1 ∧ e ≠ 2 ∧ e ≠ 3 ∧ e ≠ 12) := by omega
  rcases hcases with rfl | rfl | rfl | rfl | rfl | rfl | ⟨h0, h7, h1, h2, h3, h12⟩
  · have hf : fitsB k 0 x.size = ((x.size : Int) == (if k = 1 then 16 else 0)) := by
      unfold fitsB
      rw [if_pos rfl]
      by_cases h1 : k = 1
      · rw [if_pos h1, if_pos h1]
        by_cases h2 : x.size = 16
        · simp [h2]
        · rw [decide_eq_false h2]; symm; simp; omega
      · rw [if_neg h1, if_neg h1]
        by_cases h2 : x.size = 0
        · simp [h2]
        · rw [decide_eq_false h2]; symm; rw [beq_eq_false_iff_ne]; omega
    rw [hf]
    clear hf
    generalize (if k = 1 then (16 : Int) else 0) = y at *
    obtain ⟨q, hq⟩ : ∃ q, ((x.size : Int) == y) = q := ⟨_, rfl⟩
    rw [hq]
    go_enter Try.func40, Try.ntmps40
    obtain ⟨q0, q1⟩ := hs_cells2 (K.get 0 rfl)
    go_upto_region 3 with fail
    refine Plan.start (fun W => W.cell? ⟨w.heap.size + 1, 1, none⟩ = some (.string x) ∧ W.heap[w.heap.size]? = some (cmdRow k b s)) [(0, true), (1, true), (2, true), (3, true), (4, false), (5, true), (6, true)] (by kernel_rfl) (by kernel_rfl) (by kernel_rfl) (by kernel_rfl) ⟨(hs_cells2 (K.drew.get 0 rfl)).2, K.drew.get 1 rfl⟩ ?_
    simp only [List.map_cons, List.map_nil, List.getElem?_toArray, List.getElem?_cons_zero, List.getElem?_cons_succ]
    replace K := K.drew
    clear q0 q1
    repeat (first | (refine Plan.take ?_ (by rfl) ?_ ?_; rotate_left; (· rintro w9 ⟨u0, u1⟩; go_simp; (try rw [if_neg (by omega)]); all_goals (with_reducible rfl)); simp only [Act.put, List.setIfInBounds_toArray, List.set_cons_zero, List.set_cons_succ]) | (refine Plan.pass (by rfl) ?_; simp only [Act.put, List.setIfInBounds_toArray, List.set_cons_zero, List.set_cons_succ]))
    refine Plan.take_load 32 (.tmp 2) w.heap.size _ (by rfl) rfl (by rfl) (fun w9 h9 => h9.2) Try.underlying32 rfl cmd_info ?_
    simp only [Act.put, List.setIfInBounds_toArray, List.set_cons_zero, List.set_cons_succ]
    refine Plan.call (by rfl) 41 _ ?_ (HB.out _) ?_
    · go_simp
    rintro r9 w2 ⟨rfl, h9⟩
    replace K := K.on h9
    clear h9
    refine ⟨_, rfl, ⟨(hs_cells2 (K.get 0 rfl)).2, K.get 1 rfl⟩, ?_⟩
    simp only [Act.put, List.setIfInBounds_toArray, List.set_cons_zero, List.set_cons_succ]
    repeat (first | (refine Plan.take ?_ (by rfl) ?_ ?_; rotate_left; (· rintro w9 ⟨u0, u1⟩; go_simp; (try rw [if_neg (by omega)]); all_goals (with_reducible rfl)); simp only [Act.put, List.setIfInBounds_toArray, List.set_cons_zero, List.set_cons_succ]) | (refine Plan.pass (by rfl) ?_; simp only [Act.put, List.setIfInBounds_toArray, List.set_cons_zero, List.set_cons_succ]))
    refine Plan.ends ?_
    go_wp2_with fail
    go_ret
    exact ⟨rfl, K.hb⟩
  · by_cases hz : x.size = 0
    · have hf : fitsB k 7 x.size = true := by simp [fitsB, hz]
      obtain rfl := bytes_none hz
      rw [hf]
      clear hf
      go_enter Try.func40, Try.ntmps40
      obtain ⟨q0, q1⟩ := hs_cells2 (K.get 0 rfl)
      go_wp2_with fail
      go_ret
      exact ⟨rfl, K.hb⟩
    · have hf : fitsB k 7 x.size = false := by simp [fitsB, hz]
      have hem := bytes_some hz
      rw [hf]
      clear hf
      go_enter Try.func40, Try.ntmps40
      obtain ⟨q0, q1⟩ := hs_cells2 (K.get 0 rfl)
      go_wp2_with fail
      go_ret
      exact ⟨rfl, K.hb⟩
  · by_cases hz : x.size = 0
    · have hf : fitsB k 1 x.size = true := by simp [fitsB, hz]
      obtain rfl := bytes_none hz
      rw [hf]
      clear hf
      go_enter Try.func40, Try.ntmps40
      obtain ⟨q0, q1⟩ := hs_cells2 (K.get 0 rfl)
      go_wp2_with fail
      go_ret
      exact ⟨rfl, K.hb⟩
    · have hf : fitsB k 1 x.size = false := by simp [fitsB, hz]
      have hem := bytes_some hz
      rw [hf]
      clear hf
      go_enter Try.func40, Try.ntmps40
      obtain ⟨q0, q1⟩ := hs_cells2 (K.get 0 rfl)
      go_wp2_with fail
      go_ret
      exact ⟨rfl, K.hb⟩
  · by_cases hz : x.size = 0
    · have hf : fitsB k 2 x.size = true := by simp [fitsB, hz]
      obtain rfl := bytes_none hz
      rw [hf]
      clear hf
      go_enter Try.func40, Try.ntmps40
      obtain ⟨q0, q1⟩ := hs_cells2 (K.get 0 rfl)
      go_wp2_with fail
      go_ret
      exact ⟨rfl, K.hb⟩
    · have hf : fitsB k 2 x.size = false := by simp [fitsB, hz]
      have hem := bytes_some hz
      rw [hf]
      clear hf
      go_enter Try.func40, Try.ntmps40
      obtain ⟨q0, q1⟩ := hs_cells2 (K.get 0 rfl)
      go_wp2_with fail
      go_ret
      exact ⟨rfl, K.hb⟩
  · by_cases hz : x.size = 0
    · have hf : fitsB k 3 x.size = true := by simp [fitsB, hz]
      obtain rfl := bytes_none hz
      rw [hf]
      clear hf
      go_enter Try.func40, Try.ntmps40
      obtain ⟨q0, q1⟩ := hs_cells2 (K.get 0 rfl)
      go_wp2_with fail
      go_ret
      exact ⟨rfl, K.hb⟩
    · have hf : fitsB k 3 x.size = false := by simp [fitsB, hz]
      have hem := bytes_some hz
      rw [hf]
      clear hf
      go_enter Try.func40, Try.ntmps40
      obtain ⟨q0, q1⟩ := hs_cells2 (K.get 0 rfl)
      go_wp2_with fail
      go_ret
      exact ⟨rfl, K.hb⟩
  · by_cases hz : x.size = 0
    · have hf : fitsB k 12 x.size = true := by simp [fitsB, hz]
      obtain rfl := bytes_none hz
      rw [hf]
      clear hf
      go_enter Try.func40, Try.ntmps40
      obtain ⟨q0, q1⟩ := hs_cells2 (K.get 0 rfl)
      go_wp2_with fail
      go_ret
      exact ⟨rfl, K.hb⟩
    · have hf : fitsB k 12 x.size = false := by simp [fitsB, hz]
      have hem := bytes_some hz
      rw [hf]
      clear hf
      go_enter Try.func40, Try.ntmps40
      obtain ⟨q0, q1⟩ := hs_cells2 (K.get 0 rfl)
      go_wp2_with fail
      go_ret
      exact ⟨rfl, K.hb⟩
  · have hf : fitsB k e x.size = false := by simp [fitsB, h0, h7, h1, h2, h3, h12]
    have b0 : (e == 0) = false := by simpa using h0
    have b7 : (e == 7) = false := by simpa using h7
    have b1 : (e == 1) = false := by simpa using h1
    have b2 : (e == 2) = false := by simpa using h2
    have b3 : (e == 3) = false := by simpa using h3
    have b12 : (e == 12) = false := by simpa using h12
    rw [hf]
    clear hf
    go_enter Try.func40, Try.ntmps40
    obtain ⟨q0, q1⟩ := hs_cells2 (K.get 0 rfl)
    go_wp2_with fail
    go_ret
    exact ⟨rfl, K.hb⟩
theorem hs_info2 : (Try.prog.info? 34).map (·.size) = some 2 := by kernel_rfl
theorem rs_eql_run (a c : Int) (b d : ByteArray) (w : World) : (binOp .eql 34 (.agg #[.int .i64 a, .string b]) (.agg #[.int .i64 c, .string d])).run Try.prog w = .ok (.bool (decide (a = c) && decide (b = d))) w := by
  go_simp
  simp only [bl_eq]
  repeat' split
  all_goals simp_all
set_option maxHeartbeats 4000000 in
set_option maxRecDepth 20000 in
theorem hisCall_any (e : Ev) (w : World) :
    Calls Try.prog 39 #[evV e] w fun r w' => r = .returned (evV (callOf e)) ∧ Below w.heap.size w w' := by
  obtain ⟨er, eq, es, ek, eb, ed, ee, ex⟩ := e
  unfold callOf
  simp only
  have K := ((Env.start w).al (.cells #[.bool er, .int .i64 eq, .int .i64 es, .int .i64 ek, .int .i64 eb, .string ed, .int .i64 ee, .string ex] 36)).al (.cells #[.bool false, .int .i64 0, .int .i64 0, .int .i64 0, .int .i64 0, .string ⟨#[]⟩, .int .i64 0, .string ⟨#[]⟩] 36)
  simp only [World.size_alloc] at K
  go_enter Try.func39, Try.ntmps39
  obtain ⟨q0, q1, q2, q3, q4, q5, q6, q7⟩ := ev_cells (K.get 1 rfl)
  generalize hw0 : (w.alloc (.cells #[.bool er, .int .i64 eq, .int .i64 es, .int .i64 ek, .int .i64 eb, .string ed, .int .i64 ee, .string ex] 36)).alloc (.cells #[.bool false, .int .i64 0, .int .i64 0, .int .i64 0, .int .i64 0, .string ⟨#[]⟩, .int .i64 0, .string ⟨#[]⟩] 36) = w9 at *
  have hf := K.free 1 rfl 0
  have K1 := K.put1 1 rfl 0 (.bool false) rfl rfl
  simp only [List.set, List.setIfInBounds_toArray] at K1
  have K2 := K1.put 1 rfl (cs' := #[.bool false, .int .i64 eq, .int .i64 es, .int .i64 ek, .int .i64 eb, .string ed, .int .i64 0, .string ⟨#[]⟩]) rfl
  simp only [List.set] at K2
  have K3 := K2.put 0 rfl (cs' := #[.bool false, .int .i64 eq, .int .i64 es, .int .i64 ek, .int .i64 eb, .string ed, .int .i64 0, .string ⟨#[]⟩]) rfl
  simp only [List.set] at K3
  go_wp2_with (first
    | ((with_reducible refine store_mid 34 (.tmp 5) (.tmp 3) w.heap.size 6 #[.int .i64 0, .string ⟨#[]⟩] #[.bool false, .int .i64 eq, .int .i64 es, .int .i64 ek, .int .i64 eb, .string ed, .int .i64 0, .string ⟨#[]⟩] ?_ ?_ (K1.get 1 rfl) ?_ ?_ ?_ ?_ ?_); (· rfl); (· rfl); (· simp); (· exact hs_info2); (· simp [Value.oneCell']); (· simp [spl]); simp only [Act.put])
    | ((with_reducible refine Plan.load_lit 36 (.tmp 1) w.heap.size ?_ (K2.get 1 rfl) Try.underlying36 ?_ ?_ ?_); (· rfl); (· rfl); (· exact ev_info); simp only [Act.put, List.setIfInBounds_toArray, List.set_cons_zero, List.set_cons_succ])
    | ((with_reducible refine Plan.store_lit 36 (.tmp 2) _ (w.heap.size + 1) ?_ (K2.get 0 rfl) ?_ ?_ ?_ ?_ ?_ ?_); rotate_left; (· rfl); (· rfl); (· exact ev_info); (· rfl); (· simp [Value.oneCell']); simp only [Act.put]))
  exact bodyPost_ret (results_cell_row rfl _ _ _ _ _ _ _ rfl (K3.get 0 rfl) Try.underlying36 rfl ev_info) rfl ⟨rfl, K3.hb⟩
set_option maxHeartbeats 8000000 in
set_option maxRecDepth 20000 in
theorem hisPossible_any (e : Ev) (w : World) :
    Calls Try.prog 38 #[evV e] w fun r w' => r = .returned (.bool (possB e)) ∧ Below w.heap.size w w' := by
  obtain ⟨er, eq, es, ek, eb, ed, ee, ex⟩ := e
  have HF := Lib.hid (fun W => hisFits_any ek eb ee ed ex W)
  have HR := Lib.hid (fun W => rs_eql_run ee 0 ex ⟨#[]⟩ W)
  have K := (Env.start w).al (.cells #[.bool er, .int .i64 eq, .int .i64 es, .int .i64 ek, .int .i64 eb, .string ed, .int .i64 ee, .string ex] 36)
  have hP := Lib.hid (Eq.refl (possB ⟨er, eq, es, ek, eb, ed, ee, ex⟩))
  generalize hv : possB ⟨er, eq, es, ek, eb, ed, ee, ex⟩ = V at *
  simp only [possB] at hv
  clear hP
  have hc : eq < 0 ∨ (0 ≤ eq ∧ 4 ≤ eq) ∨ (0 ≤ eq ∧ eq < 4 ∧ es < 0) ∨ (0 ≤ eq ∧ eq < 4 ∧ 0 ≤ es) := by omega
  rcases hc with h1 | ⟨h1, h2⟩ | ⟨h1, h2, h3⟩ | ⟨h1, h2, h3⟩
  · skip
    rw [if_pos (by omega)] at hv
    subst hv
    clear HF HR
    go_enter Try.func38, Try.ntmps38
    obtain ⟨q0, q1, q2, q3, q4, q5, q6, q7⟩ := ev_cells (K.get 0 rfl)
    go_wp2_with fail
    go_ret
    exact ⟨rfl, K.hb⟩
  · skip
    rw [if_pos (by omega)] at hv
    subst hv
    clear HF HR
    go_enter Try.func38, Try.ntmps38
    obtain ⟨q0, q1, q2, q3, q4, q5, q6, q7⟩ := ev_cells (K.get 0 rfl)
    go_wp2_with fail
    go_ret
    exact ⟨rfl, K.hb⟩
  · skip
    rw [if_pos (by omega)] at hv
    subst hv
    clear HF HR
    go_enter Try.func38, Try.ntmps38
    obtain ⟨q0, q1, q2, q3, q4, q5, q6, q7⟩ := ev_cells (K.get 0 rfl)
    go_wp2_with fail
    go_ret
    exact ⟨rfl, K.hb⟩
  · rw [if_neg (by omega)] at hv
    cases er with
    | true =>
      rw [if_pos rfl] at hv
      subst hv
      clear HR
      go_enter Try.func38, Try.ntmps38
      obtain ⟨q0, q1, q2, q3, q4, q5, q6, q7⟩ := ev_cells (K.get 0 rfl)
      go_wp2_with (first
        | (go_at_call 40; ((with_reducible refine (HF.out _).mono ?_); rintro r9 w1 ⟨rfl, h9⟩; replace K := K.on h9; clear h9)))
      go_ret
      exact ⟨rfl, K.hb⟩
    | false =>
      rw [if_neg (by simp)] at hv
      have hv2 : V = (decide (ee = 0) && decide (ex = ⟨#[]⟩)) := by
        rw [← hv]
        congr 1
        by_cases hz : ex.size = 0
        · rw [decide_eq_true hz, decide_eq_true (size_zero hz)]
        · rw [decide_eq_false hz]; symm; apply decide_eq_false; intro h; rw [h] at hz; exact hz rfl
      subst hv2
      clear hv HF
      have HR2 := fun W => HR.out W
      clear HR
      go_enter Try.func38, Try.ntmps38
      obtain ⟨q0, q1, q2, q3, q4, q5, q6, q7⟩ := ev_cells (K.get 0 rfl)
      go_wp2_with fail
      go_ret
      exact ⟨rfl, K.hb⟩
set_option maxHeartbeats 4000000 in
theorem hisPlaceF_any (e : Ev) (r : Bool) (s : Int) (g1 g2 : Nat) (w : World) (h1 : w.heap[g1]? = some (.cells #[.bool r] 4 (0, 0))) (h2 : w.heap[g2]? = some (.cells #[.int .i64 s] 3 (0, 0))) :
    Calls Try.prog 37 #[evV e, .pointer (some ⟨g1, 0, none⟩), .pointer (some ⟨g2, 0, none⟩)] w fun x w' => x = .returned (.bool ((e.ret == r) && decide (e.serial = s))) ∧ Below w.heap.size w w' := by
  obtain ⟨er, eq, es, ek, eb, ed, ee, ex⟩ := e
  have K := (Env.start w).al (.cells #[.bool er, .int .i64 eq, .int .i64 es, .int .i64 ek, .int .i64 eb, .string ed, .int .i64 ee, .string ex] 36)
  have c1 := cell_of_row _ _ 0 _ _ _ (e_al h1 (.cells #[.bool er, .int .i64 eq, .int .i64 es, .int .i64 ek, .int .i64 eb, .string ed, .int .i64 ee, .string ex] 36))
  have c2 := cell_of_row _ _ 0 _ _ _ (e_al h2 (.cells #[.bool er, .int .i64 eq, .int .i64 es, .int .i64 ek, .int .i64 eb, .string ed, .int .i64 ee, .string ex] 36))
  obtain ⟨q, d2⟩ : ∃ q, (es == s) = q := ⟨_, rfl⟩
  simp only
  rw [show decide (es = s) = q from d2]
  obtain ⟨p, d3⟩ : ∃ p, (er == r) = p := ⟨_, rfl⟩
  rw [d3]
  clear h1 h2
  cases p
  · go_enter Try.func37, Try.ntmps37
    obtain ⟨q0, q1, q2, q3, q4, q5, q6, q7⟩ := ev_cells (K.get 0 rfl)
    go_wp2_with fail
    go_ret
    exact ⟨rfl, K.hb⟩
  · go_enter Try.func37, Try.ntmps37
    obtain ⟨q0, q1, q2, q3, q4, q5, q6, q7⟩ := ev_cells (K.get 0 rfl)
    go_wp2_with fail
    go_ret
    exact ⟨rfl, K.hb⟩
end Go.Proofs.Ytkamadeekkccgaa.Ents

/- The walk of the document's Same of lists of events, for equal lists. -/
namespace Go.Proofs.Ytkamadeekkccgaa.Ents
open Go.RowKit Plan HisMath Rws Env
set_option maxHeartbeats 4000000 in
set_option maxRecDepth 20000 in
theorem refVSame_any (F G : Nat → Prop) (L : List Ev) (a b : Option Addr) (n c m k : Nat) (w : World) (hl : VList w F a n c L) (hk : VList w G b m k L) :
    Calls Try.prog 20 #[.slice a n c, .slice b m k] w fun r w' => r = .returned (.bool true) ∧ Below w.heap.size w w' := by
  have hlen := hl.length
  obtain rfl : n = m := hlen.symm.trans hk.length
  have hmx : n ≤ maxLen := Nat.le_trans hl.cap.1 hl.cap.2
  unfold maxLen at hmx
  have HA := Lib.hid (fun W (h : Below w.heap.size w W) i (hi : i < n) => ev_at (hl.same h) i hi)
  have HB := Lib.hid (fun W (h : Below w.heap.size w W) i (hi : i < n) => ev_at (hk.same h) i hi)
  have hb := Below.refl w.heap.size w
  clear hl hk
  go_enter Try.func20, Try.ntmps20
  go_wp2_with fail
  go_loopw [5] (fun x wr => ∃ j : Nat, x = .int .i64 (j : Int) ∧ j ≤ n ∧ Below w.heap.size w wr) (fun x _ => n - (intOf x).toNat)
  case atStart => exact ⟨0, rfl, by omega, hb⟩
  case round =>
    clear hb
    obtain ⟨j, rfl, hj, hb⟩ := hrel
    by_cases hlt : j < n
    · obtain ⟨x, e, rfl, he, hat⟩ := HA.out wr hb j hlt
      obtain ⟨y, f, rfl, hf, haf⟩ := HB.out wr hb j hlt
      rw [he] at hf
      obtain rfl := Option.some.inj hf
      have hjI : (j : Int) < (n : Int) := by omega
      clear hf he
      obtain ⟨er, eq, es, ek, eb, ed, ee, ex⟩ := e
      try simp only at hat haf
      go_upto_region 6 with fail
      refine Plan.start (fun W => EvAt W x j ⟨er, eq, es, ek, eb, ed, ee, ex⟩ ∧ EvAt W y j ⟨er, eq, es, ek, eb, ed, ee, ex⟩) [(0, true), (1, true), (2, true), (3, true), (4, true), (5, true), (6, true), (7, true), (8, true)] (by kernel_rfl) (by kernel_rfl) (by kernel_rfl) (by kernel_rfl) ⟨hat, haf⟩ ?_
      simp only [List.map_cons, List.map_nil, List.getElem?_toArray, List.getElem?_cons_zero, List.getElem?_cons_succ]
      repeat (first | (refine Plan.take ?_ (by rfl) ?_ ?_; rotate_left; (· rintro w9 ⟨⟨u0, u1, u2, u3, u4, u5, u6, u7⟩, ⟨v0, v1, v2, v3, v4, v5, v6, v7⟩⟩; go_simp; (try rw [if_neg (by omega)]); all_goals (with_reducible rfl)); simp only [Act.put, List.setIfInBounds_toArray, List.set_cons_zero, List.set_cons_succ]) | (refine Plan.pass (by rfl) ?_; simp only [Act.put, List.setIfInBounds_toArray, List.set_cons_zero, List.set_cons_succ]))
      refine Plan.ends ?_
      have hb2 := hb.drew
      clear hat haf
      go_wp2_with fail
      go_roundw
      case rel => exact ⟨j + 1, by go_num, by omega, hb2⟩
      case measure => simp [intOf]; omega
    · obtain rfl : j = n := by omega
      go_wp2_with fail
      go_ret
      exact ⟨rfl, hb⟩
end Go.Proofs.Ytkamadeekkccgaa.Ents

/- What the laws ask of the program's histories; the walk of the law's agree. -/
namespace Go.Proofs.Ytkamadeekkccgaa.Ents
open Go.RowKit Plan HisMath Rws Env LayMath
/-- what Pending leaves -/
def PPost (w : World) (X : List Int) (r : Ending) (w' : World) : Prop :=
  ∃ a n c, r = .returned (.slice a n c) ∧ TList IR w' (fun b => w.heap.size ≤ b) a n c X ∧ Below w.heap.size w w'
structure HistoryOk : Prop where
  check : ∀ (F : Nat → Prop) (L : List Ev) (b : Int) (a : Option Addr) (n c : Nat) (w : World), VList w F a n c L → n ≤ 100000 → Calls Try.prog 14 #[.int .i64 b, .slice a n c] w fun r w' => r = .returned (.int .i64 (checkE b L)) ∧ Below w.heap.size w w'
  before : ∀ (F : Nat → Prop) (L : List Ev) (a : Option Addr) (n c : Nat) (s t : Int) (w : World), VList w F a n c L → n ≤ 100000 → Calls Try.prog 13 #[.slice a n c, .int .i64 s, .int .i64 t] w fun r w' => r = .returned (.bool (beforeB L s t)) ∧ Below w.heap.size w w'
  pending : ∀ (F : Nat → Prop) (L : List Ev) (a : Option Addr) (n c : Nat) (w : World), VList w F a n c L → n ≤ 100000 → Calls Try.prog 16 #[.slice a n c] w (PPost w (pendE L n))
  operations : ∀ (F : Nat → Prop) (L : List Ev) (a : Option Addr) (n c : Nat) (w : World), VList w F a n c L → n ≤ 100000 → Calls Try.prog 15 #[.slice a n c] w (VPost w (opsE L n))
  restrict : ∀ (F : Nat → Prop) (L : List Ev) (a : Option Addr) (n c : Nat) (b : Int) (w : World), VList w F a n c L → n ≤ 100000 → Calls Try.prog 17 #[.slice a n c, .int .i64 b] w (VPost w (restE L b))
set_option maxHeartbeats 8000000 in
set_option maxRecDepth 20000 in
theorem hisAgree_any (H : HistoryOk) (F : Nat → Prop) (L : List Ev) (b : Int) (a : Option Addr) (n c : Nat) (s t k : Int) (w : World) (hl : VList w F a n c L) (hm : n ≤ 100000) :
    Calls Try.prog 7 #[.int .i64 b, .slice a n c, .int .i64 s, .int .i64 t, .int .i64 k] w fun r w' => r = .returned (.bool true) ∧ Below w.heap.size w w' := by
  have H1 := Lib.hid (fun W (h : Below w.heap.size w W) => H.check _ L b a n c W (hl.same h) hm)
  have H2 := Lib.hid (fun W (h : Below w.heap.size w W) => refHCheck_any _ L b a n c W (hl.same h))
  have H3 := Lib.hid (fun W (h : Below w.heap.size w W) => H.before _ L a n c s t W (hl.same h) hm)
  have H4 := Lib.hid (fun W (h : Below w.heap.size w W) => refBefore_any _ L a n c s t W (hl.same h))
  have H5 := Lib.hid (fun W (h : Below w.heap.size w W) => H.pending _ L a n c W (hl.same h) hm)
  have H6 := Lib.hid (fun W (h : Below w.heap.size w W) => refPending_any _ L a n c W (hl.same h) hm)
  have H7 := Lib.hid (fun W (h : Below w.heap.size w W) => H.operations _ L a n c W (hl.same h) hm)
  have H8 := Lib.hid (fun W (h : Below w.heap.size w W) => refOps_any _ L a n c W (hl.same h) hm)
  have H9 := Lib.hid (fun W (h : Below w.heap.size w W) => H.restrict _ L a n c k W (hl.same h) hm)
  have H0 := Lib.hid (fun W (h : Below w.heap.size w W) => refRestrict_any _ L a n c k W (hl.same h) hm)
  have HS := Lib.hid (fun W F G L a b n c m k (h1 : VList W F a n c L) (h2 : VList W G b m k L) => refVSame_any F G L a b n c m k W h1 h2)
  unfold PPost at H5
  unfold VPost at H7 H8 H9 H0
  have hb := Below.refl w.heap.size w
  generalize checkE b L = E at *
  generalize beforeB L s t = B at *
  generalize pendE L n = PL at *
  generalize opsE L n = OL at *
  generalize restE L k = RL at *
  clear hl
  go_enter Try.func7, Try.ntmps7
  go_upto_if 40 with (first
    | (go_at_call 14; ((with_reducible refine (H1.out _ hb).mono ?_); rintro r9 w9 ⟨rfl, h9⟩; replace hb := hb.trans (h9.mono hb.size); clear h9))
    | (go_at_call 11; ((with_reducible refine (H2.out _ hb).mono ?_); rintro r9 w9 ⟨rfl, h9⟩; replace hb := hb.trans (h9.mono hb.size); clear h9))
    | (go_at_call 13; ((with_reducible refine (H3.out _ hb).mono ?_); rintro r9 w9 ⟨rfl, h9⟩; replace hb := hb.trans (h9.mono hb.size); clear h9))
    | (go_at_call 18; ((with_reducible refine (H4.out _ hb).mono ?_); rintro r9 w9 ⟨rfl, h9⟩; replace hb := hb.trans (h9.mono hb.size); clear h9))
    | (go_at_call 16; ((with_reducible refine (H5.out _ hb).mono ?_); rintro r9 w9 ⟨pa, pm, pc, rfl, lp, h9⟩; replace hb := hb.trans (h9.mono hb.size); clear h9))
    | (go_at_call 19; ((with_reducible refine (H6.out _ hb).mono ?_); rintro r9 w8 ⟨qa, qm, qc, rfl, lq, h9⟩; replace hb := hb.trans (h9.mono hb.size); replace lp := lp.same h9; replace lq := lq.low; clear h9)))
  obtain rfl : pm = qm := lp.length.symm.trans lq.length
  have hpc := lp.cap
  have hqc := lq.cap
  unfold maxLen at hpc hqc
  have HP := Lib.hid (fun W (h : Below w8.heap.size w8 W) i (hi : i < pm) => ir_at (lp.same h) i hi)
  have HQ := Lib.hid (fun W (h : Below w8.heap.size w8 W) i (hi : i < pm) => ir_at (lq.same h) i hi)
  clear lp lq
  have h8 := Below.refl w8.heap.size w8
  go_wp2_with fail
  go_loopw [13] (fun x wr => ∃ j : Nat, x = .int .i64 (j : Int) ∧ j ≤ pm ∧ Below w8.heap.size w8 wr) (fun x _ => pm - (intOf x).toNat)
  case atStart => exact ⟨0, rfl, by omega, h8⟩
  case round =>
    clear h8
    obtain ⟨j, rfl, hj, h8⟩ := hrel
    by_cases hlt : j < pm
    · obtain ⟨x, y, rfl, hy, cx⟩ := HP.out wr h8 j hlt
      obtain ⟨x2, y2, rfl, hy2, cx2⟩ := HQ.out wr h8 j hlt
      rw [hy] at hy2
      obtain rfl := Option.some.inj hy2
      have hjI : (j : Int) < (pm : Int) := by omega
      clear hy hy2
      go_upto_region 9 with fail
      refine Plan.start (fun W => W.cell? (x.add j) = some (.int .i64 y) ∧ W.cell? (x2.add j) = some (.int .i64 y)) [(0, true), (1, true), (2, true), (3, true), (4, true), (5, true), (6, true), (7, true), (8, true)] (by kernel_rfl) (by kernel_rfl) (by kernel_rfl) (by kernel_rfl) ⟨cx, cx2⟩ ?_
      simp only [List.map_cons, List.map_nil, List.getElem?_toArray, List.getElem?_cons_zero, List.getElem?_cons_succ]
      repeat (first | (refine Plan.take ?_ (by rfl) ?_ ?_; rotate_left; (· rintro w9 ⟨u0, u1⟩; go_simp; (try rw [if_neg (by omega)]); all_goals (with_reducible rfl)); simp only [Act.put, List.setIfInBounds_toArray, List.set_cons_zero, List.set_cons_succ]) | (refine Plan.pass (by rfl) ?_; simp only [Act.put, List.setIfInBounds_toArray, List.set_cons_zero, List.set_cons_succ]))
      refine Plan.ends ?_
      have h8d := h8.drew
      clear cx cx2
      go_wp2_with fail
      go_roundw
      case rel => exact ⟨j + 1, by go_num, by omega, h8d⟩
      case measure => simp [intOf]; omega
    · obtain rfl : j = pm := by omega
      have hjI : ¬ (j : Int) < (j : Int) := by omega
      replace hb := hb.trans (h8.mono hb.size)
      clear h8
      go_wp2_with (first
        | (go_at_call 15; ((with_reducible refine (H7.out _ hb).mono ?_); rintro r9 w9 ⟨oa, om, oc, rfl, lo1, h9⟩; replace hb := hb.trans (h9.mono hb.size); clear h9))
        | (go_at_call 21; ((with_reducible refine (H8.out _ hb).mono ?_); rintro r9 w9 ⟨oa2, om2, oc2, rfl, lo2, h9⟩; replace hb := hb.trans (h9.mono hb.size); replace lo1 := lo1.same h9; clear h9))
        | (go_at_call 17; ((with_reducible refine (H9.out _ hb).mono ?_); rintro r9 w9 ⟨ra, rm, rc, rfl, lr1, h9⟩; replace hb := hb.trans (h9.mono hb.size); clear h9))
        | (go_at_call 22; ((with_reducible refine (H0.out _ hb).mono ?_); rintro r9 w9 ⟨ra2, rm2, rc2, rfl, lr2, h9⟩; replace hb := hb.trans (h9.mono hb.size); replace lr1 := lr1.same h9; clear h9))
        | (go_at_call 20; ((with_reducible refine (HS.out _ _ _ _ _ _ _ _ _ _ lo1 lo2).mono ?_); rintro r9 w9 ⟨rfl, h9⟩; replace hb := hb.trans (h9.mono hb.size); clear h9 lo1 lo2))
        | (go_at_call 20; ((with_reducible refine (HS.out _ _ _ _ _ _ _ _ _ _ lr1 lr2).mono ?_); rintro r9 w9 ⟨rfl, h9⟩; replace hb := hb.trans (h9.mono hb.size); clear h9 lr1 lr2)))
      go_ret
      exact ⟨rfl, hb⟩
end Go.Proofs.Ytkamadeekkccgaa.Ents

/- The walks of the program's place, Before and Restrict of histories. -/
namespace Go.Proofs.Ytkamadeekkccgaa.HisMath
def plP (r : Bool) (s : Int) (e : Ev) : Bool := (e.ret == r) && decide (e.serial = s)
theorem pl_ret (s : Int) : plP true s = retP s := by funext e; cases h : e.ret <;> simp [plP, retP, h]
theorem pl_inv (s : Int) : plP false s = invP s := by funext e; cases h : e.ret <;> simp [plP, invP, h]
end Go.Proofs.Ytkamadeekkccgaa.HisMath
namespace Go.Proofs.Ytkamadeekkccgaa.Ents
open Go.RowKit Plan HisMath Rws Env LayMath CmdMath
set_option maxHeartbeats 8000000 in
set_option maxRecDepth 20000 in
theorem hisIndex_any (F : Nat → Prop) (L : List Ev) (a : Option Addr) (n c : Nat) (r : Bool) (s : Int) (g1 g2 : Nat) (w : World) (hl : VList w F a n c L) (h1 : w.heap[g1]? = some (.cells #[.bool r] 4 (0, 0))) (h2 : w.heap[g2]? = some (.cells #[.int .i64 s] 3 (0, 0))) :
    Calls Try.prog 36 #[.slice a n c, .func (.func 37) #[] #[.pointer (some ⟨g1, 0, none⟩), .pointer (some ⟨g2, 0, none⟩)]] w fun x w' => x = .returned (.int .i64 (seek (plP r s) L)) ∧ Below w.heap.size w w' := by
  have hlen := hl.length
  have hcp := hl.cap
  unfold maxLen at hcp
  have HAT := Lib.hid (fun W (h : Below w.heap.size w W) i (hi : i < n) => ev_at (hl.same h) i hi)
  have HK := Lib.hid (fun W (h : Below w.heap.size w W) e => hisPlaceF_any e r s g1 g2 W (e_on h h1 (e_lt h1)) (e_on h h2 (e_lt h2)))
  have HYES := Lib.hid (fun (j : Nat) (e : Ev) (h1 : L[j]? = some e) (h2 : plP r s e = true) (h3 : ∀ i x, i < j → L[i]? = some x → plP r s x = false) => seek_at h1 h2 h3)
  have HNO := Lib.hid (fun (h : ∀ i x, i < n → L[i]? = some x → plP r s x = false) => seek_none (l := L) (by rw [hlen]; exact h))
  clear hl h1 h2 hlen
  go_enter Try.func36, Try.ntmps36
  go_wp2
  go_loopw [8] (fun x wr => ∃ j : Nat, x = .int .i64 (j : Int) ∧ j ≤ n ∧ RowKit.Hid (∀ i x, i < j → L[i]? = some x → plP r s x = false) ∧ Below w.heap.size w wr) (fun x _ => n - (intOf x).toNat)
  case atStart => exact ⟨0, rfl, by omega, Lib.hid (fun i _ hi => absurd hi (Nat.not_lt_zero _)), Below.refl _ _⟩
  case round =>
    obtain ⟨j, rfl, hj, hall, hb⟩ := hrel
    by_cases hlt : j < n
    · obtain ⟨x, e, rfl, he, c0, c1, c2, c3, c4, c5, c6, c7⟩ := HAT.out wr hb j hlt
      have hk := HK.out wr hb e
      have hjI : (j : Int) < (n : Int) := by omega
      have HE := Lib.hid he
      have hpl : ((e.ret == r) && decide (e.serial = s)) = plP r s e := rfl
      rw [hpl] at hk
      clear hpl
      by_cases hq : plP r s e = true
      · have HR := Lib.hid (HYES.out j _ HE.out hq hall.out)
        rw [hq] at hk
        clear hq he HE
        obtain ⟨er, eq, es, ek, eb, ed, ee, ex⟩ := e
        simp only at hk c0 c1 c2 c3 c4 c5 c6 c7
        have hk := Lib.hid hk
        go_wp2_with (first
          | (go_at_call 37; ((with_reducible refine hk.out.mono ?_); rintro e9 w1 ⟨rfl, h1⟩)))
        go_ret
        exact ⟨r_i HR.out.symm, hb.trans (h1.mono hb.size)⟩
      · replace hq : plP r s e = false := by simpa using hq
        have HN : RowKit.Hid (∀ i x, i < j + 1 → L[i]? = some x → plP r s x = false) := Lib.hid (fun i x hi hx => by
          rcases Nat.lt_or_ge i j with h9 | h9
          · exact hall.out i x h9 hx
          · obtain rfl : i = j := by omega
            rw [HE.out] at hx
            cases hx
            exact hq)
        rw [hq] at hk
        clear hq he HE
        obtain ⟨er, eq, es, ek, eb, ed, ee, ex⟩ := e
        simp only at hk c0 c1 c2 c3 c4 c5 c6 c7
        have hk := Lib.hid hk
        go_wp2_with (first
          | (go_at_call 37; ((with_reducible refine hk.out.mono ?_); rintro e9 w1 ⟨rfl, h1⟩)))
        go_roundw
        case rel => exact ⟨j + 1, by go_num, by omega, HN, hb.trans (h1.mono hb.size)⟩
        case measure => simp [intOf]; omega
    · obtain rfl : j = n := by omega
      have hjI : ¬ (j : Int) < (j : Int) := by omega
      have HR := Lib.hid (HNO.out hall.out)
      go_wp2_with fail
      go_ret
      exact ⟨r_i HR.out.symm, hb⟩
set_option maxHeartbeats 8000000 in
set_option maxRecDepth 20000 in
theorem hisPlace_any (F : Nat → Prop) (L : List Ev) (a : Option Addr) (n c : Nat) (r : Bool) (s : Int) (w : World) (hl : VList w F a n c L) :
    Calls Try.prog 28 #[.slice a n c, .bool r, .int .i64 s] w fun x w' => x = .returned (.int .i64 (seek (plP r s) L)) ∧ Below w.heap.size w w' := by
  have K := ((Env.start w).al (.cells #[.bool r] 4)).al (.cells #[.int .i64 s] 3)
  simp only [World.size_alloc] at K
  have HI := Lib.hid (hisIndex_any _ L a n c r s _ _ _ (hl.same K.hb) (K.get 1 rfl) (K.get 0 rfl))
  generalize seek (plP r s) L = y at *
  clear hl
  go_enter Try.func28, Try.ntmps28
  go_wp2_with (first
    | (go_at_call 36; ((with_reducible refine HI.out.mono ?_); rintro r9 w1 ⟨rfl, h9⟩; replace K := K.on h9; clear h9)))
  go_ret
  exact ⟨rfl, K.hb⟩
set_option maxHeartbeats 8000000 in
set_option maxRecDepth 20000 in
theorem hisBefore_any (F : Nat → Prop) (L : List Ev) (a : Option Addr) (n c : Nat) (s t : Int) (w : World) (hl : VList w F a n c L) :
    Calls Try.prog 13 #[.slice a n c, .int .i64 s, .int .i64 t] w fun r w' => r = .returned (.bool (beforeB L s t)) ∧ Below w.heap.size w w' := by
  have HR := Lib.hid (fun W (h : Below w.heap.size w W) => hisPlace_any _ L a n c true s W (hl.same h))
  have HI := Lib.hid (fun W (h : Below w.heap.size w W) => hisPlace_any _ L a n c false t W (hl.same h))
  rw [pl_ret] at HR
  rw [pl_inv] at HI
  have hb := Below.refl w.heap.size w
  unfold beforeB
  rw [show retI L s = seek (retP s) L from rfl, show invI L t = seek (invP t) L from rfl]
  generalize seek (retP s) L = i at *
  generalize seek (invP t) L = k at *
  clear hl
  go_enter Try.func13, Try.ntmps13
  go_upto_region 2 with (first
    | (go_at_call 28; (first
      | ((with_reducible refine (HR.out _ hb).mono ?_); rintro r9 w1 ⟨rfl, h9⟩; replace hb := hb.trans (h9.mono hb.size); clear h9 HR)
      | ((with_reducible refine (HI.out _ hb).mono ?_); rintro r9 w2 ⟨rfl, h9⟩; replace hb := hb.trans (h9.mono hb.size); clear h9))))
  clear HI
  by_cases h1 : 0 ≤ i
  · have e1 : decide (0 ≤ i) = true := decide_eq_true h1
    by_cases h3 : i < k
    · have h2 : 0 ≤ k := by omega
      have e2 : decide (i < k) = true := decide_eq_true h3
      go_wp2_with fail
      go_ret
      exact ⟨by simp [h1, h2, h3], hb⟩
    · have e2 : decide (i < k) = false := decide_eq_false h3
      go_wp2_with fail
      go_ret
      exact ⟨by simp, hb⟩
  · have e1 : decide (0 ≤ i) = false := decide_eq_false h1
    go_wp2_with fail
    go_ret
    exact ⟨by simp, hb⟩
set_option maxHeartbeats 8000000 in
set_option maxRecDepth 20000 in
theorem hisRestrict_any (F : Nat → Prop) (L : List Ev) (a : Option Addr) (n c : Nat) (b : Int) (w : World) (hl : VList w F a n c L) (hm : n ≤ 100000) :
    Calls Try.prog 17 #[.slice a n c, .int .i64 b] w (VPost w (restE L b)) := by
  refine (?_ : Calls Try.prog 17 #[.slice a n c, .int .i64 b] w (OVPost w (restE L b))).mono fun _ _ h => own_vpost h
  have hlen := hl.length
  have HAT := Lib.hid (fun W (h : Below w.heap.size w W) i (hi : i < n) => ev_at (hl.same h) i hi)
  have HTAKE := Lib.hid (show restE (L.take n) b = restE L b by rw [List.take_of_length_le (by omega)])
  have HNM := Lib.hid (fun k c s W => hisNames_any k c b s W)
  have K := (Env.start w).nil VR
  unfold OVPost
  clear hl hlen
  go_enter Try.func17, Try.ntmps17
  go_wp2_with fail
  go_loopw [5, 10] (fun v x wr => ∃ (j k : Nat) (u : Value), x = .int .i64 (j : Int) ∧ j ≤ n ∧ v = u ∧ k ≤ j ∧ Env w wr [Env.lst VR u k (restE (L.take j) b)]) (fun _ x _ => n - (intOf x).toNat)
  case atStart => exact ⟨0, 0, _, rfl, by omega, rfl, by omega, K⟩
  case round =>
    clear K
    obtain ⟨j, k, u, rfl, hj, rfl, hk, K⟩ := hrel
    by_cases hlt : j < n
    · obtain ⟨x, e, rfl, he, c0, c1, c2, c3, c4, c5, c6, c7⟩ := HAT.out wr K.hb j hlt
      have hjI : (j : Int) < (n : Int) := by omega
      have HQ := Lib.hid (restE_next (b := b) he)
      obtain ⟨er, eq, es, ek, eb, ed, ee, ex⟩ := e
      simp only at c0 c1 c2 c3 c4 c5 c6 c7
      have HB := Lib.hid (HNM.out ek eb ed)
      have hpl : (decide (eb = b) && (decide (ek = 1) || decide (ek = 2) || decide (ek = 3))) = restB b ⟨er, eq, es, ek, eb, ed, ee, ex⟩ := rfl
      rw [hpl] at HB
      clear he hpl
      generalize restE (L.take j) b = RX at *
      go_upto_region 5 with fail
      replace K := K.al (.cells #[.bool er, .int .i64 eq, .int .i64 es, .int .i64 ek, .int .i64 eb, .string ed, .int .i64 ee, .string ex] 36)
      obtain ⟨g, hg⟩ : ∃ g, wr.heap.size = g := ⟨_, rfl⟩
      rw [hg] at K
      simp only [hg]
      generalize wr.alloc (.cells #[.bool er, .int .i64 eq, .int .i64 es, .int .i64 ek, .int .i64 eb, .string ed, .int .i64 ee, .string ex] 36) = w1 at *
      clear c0 c1 c2 c3 c4 c5 c6 c7 hg
      obtain ⟨c0, c1, c2, c3, c4, c5, c6, c7⟩ := ev_cells (K.get 0 rfl)
      by_cases hq : restB b ⟨er, eq, es, ek, eb, ed, ee, ex⟩ = true
      · replace HQ := Lib.hid (HQ.out.1 hq)
        rw [hq] at HB
        clear hq
        go_upto_region 6 with (first
          | (go_at_call 32; ((with_reducible refine (HB.out _).mono ?_); rintro r9 w2 ⟨rfl, h9⟩; replace K := K.on h9; clear h9)))
        have KB := K.al (.cells #[.bool er, .int .i64 eq, .int .i64 es, .int .i64 ek, .int .i64 eb, .string ed, .int .i64 ee, .string ex] 36)
        go_wp2_with (first
          | ((with_reducible refine Plan.load_lit 36 (.tmp 7) g ?_ (K.get 0 rfl) Try.underlying36 ?_ ?_ ?_); (· rfl); (· rfl); (· exact ev_info); simp only [Act.put, List.setIfInBounds_toArray, List.set_cons_zero, List.set_cons_succ])
          | (refine KB.apps_one vrOk rfl (.tmp 18) (.tmp 20) rfl 2 0 rfl rfl (e := ⟨er, eq, es, ek, eb, ed, ee, ex⟩) rfl rfl (by omega) ?_; intro g3 c3 w3 K8 k8; simp only [List.set] at K8 k8; simp only [Act.put, List.setIfInBounds_toArray, List.set_cons_zero, List.set_cons_succ]; clear KB K k8))
        have K9 := K8.sub (T' := [Env.lst VR (Env.slv g3 (k + 1) c3) (k + 1) (RX ++ [⟨er, eq, es, ek, eb, ed, ee, ex⟩])]) [2] rfl (by simp) (by simp)
        rw [← HQ.out] at K9
        go_roundw
        case rel => exact ⟨j + 1, k + 1, _, by go_num, by omega, rfl, by omega, K9⟩
        case measure => simp [intOf]; omega
      · replace hq : restB b ⟨er, eq, es, ek, eb, ed, ee, ex⟩ = false := by simpa using hq
        replace HQ := HQ.out.2 hq
        rw [hq] at HB
        replace K := K.sub (T' := [Env.lst VR _ k RX]) [1] rfl (by simp) (by simp)
        rw [← HQ] at K
        clear HQ hq
        go_wp2_with (first
          | (go_at_call 32; ((with_reducible refine (HB.out _).mono ?_); rintro r9 w2 ⟨rfl, h9⟩; replace K := K.on h9; clear h9)))
        go_roundw
        case rel => exact ⟨j + 1, k, _, by go_num, by omega, rfl, by omega, K⟩
        case measure => simp [intOf]; omega
    · obtain rfl : j = n := by omega
      have hjI : ¬ (j : Int) < (j : Int) := by omega
      rw [HTAKE.out] at K
      go_wp2_with fail
      go_ret
      exact ⟨_, rfl, ⟨_, K.own 0 rfl⟩, K.hb⟩
end Go.Proofs.Ytkamadeekkccgaa.Ents

/- The walks of the program's calls, results, Operations and Pending of histories. -/
namespace Go.Proofs.Ytkamadeekkccgaa.Ents
open Go.RowKit Plan HisMath Rws Env LayMath CmdMath
theorem resm_und : Try.prog.underlying 52 = some (.map 3 34) := by kernel_rfl
theorem resm_zero (W : World) : (zeroValue 34).run Try.prog W = .ok (.agg #[.int .i64 0, .string ⟨#[]⟩]) W := by kernel_rfl
abbrev rsV (e : Ev) : Value := .agg #[.int .i64 e.err, .string e.res]
def rsF (L : List Ev) (j : Nat) : Int → Option Value := fun z => (retE L j z).map rsV
theorem rsF_same {L : List Ev} {j : Nat} {e : Ev} (he : L[j]? = some e) (h : e.ret = false ∨ (retE L j e.serial).isSome = true) : rsF L (j + 1) = rsF L j := by
  funext z
  unfold rsF
  rw [ret_next he, if_neg]
  rintro ⟨h1, h2, h3⟩
  rcases h with h | h
  · rw [h] at h1; cases h1
  · rw [h2, h3] at h; cases h
theorem rsF_more {L : List Ev} {j : Nat} {e : Ev} (he : L[j]? = some e) (h : e.ret = true) (hn : retE L j e.serial = none) : rsF L (j + 1) = putF (rsF L j) e.serial (rsV e) := by
  funext z
  unfold rsF putF
  rw [ret_next he]
  by_cases hz : z = e.serial
  · subst hz
    rw [if_pos ⟨h, rfl, hn⟩, if_pos rfl]
    rfl
  · rw [if_neg (fun h2 => hz h2.2.1.symm), if_neg hz]
/-- what results leaves -/
def RMPost (w : World) (f : Int → Option Value) (r : Ending) (w' : World) : Prop :=
  ∃ mb, r = .returned (.map (some mb)) ∧ w.heap.size ≤ mb ∧ IMap w' mb f ∧ Below w.heap.size w w'
set_option maxHeartbeats 8000000 in
set_option maxRecDepth 20000 in
theorem hisCalls_any (F : Nat → Prop) (L : List Ev) (a : Option Addr) (n c : Nat) (w : World) (hl : VList w F a n c L) (hm : n ≤ 100000) :
    Calls Try.prog 30 #[.slice a n c] w (OVPost w (callsE L n)) := by
  have HAT := Lib.hid (fun W (h : Below w.heap.size w W) i (hi : i < n) => ev_at (hl.same h) i hi)
  have hmm := fun W => (show (Instr.makeMap 66 none).run Try.prog W = .ok (.map (some W.heap.size)) (W.alloc (.map #[] 0)) from rfl)
  have K := (env_imap (Env.start w)).nil VR
  have HS := Lib.hid (seen_start L)
  unfold OVPost
  clear hl
  go_enter Try.func30, Try.ntmps30
  go_wp2_with fail
  clear hmm
  generalize hmb : w.heap.size = mb at *
  generalize w.alloc (.map #[] 0) = w0 at *
  go_loopw [3, 10] (fun v x wr => ∃ (j k : Nat) (u : Value) (Sn : List Int), x = .int .i64 (j : Int) ∧ j ≤ n ∧ v = u ∧ k ≤ j ∧ RowKit.Hid (SeenI L j Sn) ∧ Env w wr [Env.lst VR u k (callsE L j), iseenT mb Sn]) (fun _ x _ => n - (intOf x).toNat)
  case atStart => exact ⟨0, 0, _, [], rfl, by omega, rfl, by omega, HS, K⟩
  case round =>
    clear K HS
    obtain ⟨j, k, u, Sn, rfl, hj, rfl, hk, HS, K⟩ := hrel
    by_cases hlt : j < n
    · obtain ⟨x, e, rfl, he, c0, c1, c2, c3, c4, c5, c6, c7⟩ := HAT.out wr (hmb ▸ K.hb) j hlt
      have hjI : (j : Int) < (n : Int) := by omega
      have HQ := Lib.hid (calls_next he)
      have HS0 := Lib.hid (fun h => seen_same HS.out he h)
      have HS1 := Lib.hid (fun h => seen_more HS.out he h)
      have hask := seen_ask HS.out e.serial
      have hP := Lib.hid (Eq.refl (opsB L j e))
      generalize hp : opsB L j e = p at *
      simp only [opsB] at hp
      obtain ⟨er, eq, es, ek, eb, ed, ee, ex⟩ := e
      simp only at c0 c1 c2 c3 c4 c5 c6 c7 HS1 hask hp
      clear he hP HS
      generalize callsE L j = RX at *
      go_upto_region 6 with fail
      replace K := K.al (.cells #[.bool er, .int .i64 eq, .int .i64 es, .int .i64 ek, .int .i64 eb, .string ed, .int .i64 ee, .string ex] 36)
      obtain ⟨g, hg⟩ : ∃ g, wr.heap.size = g := ⟨_, rfl⟩
      rw [hg] at K
      simp only [hg]
      generalize wr.alloc (.cells #[.bool er, .int .i64 eq, .int .i64 es, .int .i64 ek, .int .i64 eb, .string ed, .int .i64 ee, .string ex] 36) = w1 at *
      clear c0 c1 c2 c3 c4 c5 c6 c7 hg
      obtain ⟨c0, c1, c2, c3, c4, c5, c6, c7⟩ := ev_cells (K.get 0 rfl)
      cases er with
      | true =>
        obtain rfl : p = false := by rw [← hp]; rfl
        replace HQ := HQ.out.2 rfl
        replace HS := Lib.hid (HS0.out rfl)
        clear hask hp HS0 HS1
        replace K := K.sub (T' := [Env.lst VR _ k RX, iseenT mb Sn]) [1, 2] rfl (by simp) (by simp)
        rw [← HQ] at K
        clear HQ
        go_wp2_with fail
        go_roundw
        case rel => exact ⟨j + 1, k, _, Sn, by go_num, by omega, rfl, by omega, HS, K⟩
        case measure => simp [intOf]; omega
      | false =>
        have hlk := iseen_look (env_iseen K 2 rfl) es
        cases p with
        | false =>
          have hh : decide (es ∈ Sn) = true := by rw [hask]; simpa using hp
          rw [hh] at hlk
          replace HQ := HQ.out.2 rfl
          replace HS := Lib.hid (HS0.out rfl)
          clear hask hp HS0 HS1 hh
          replace K := K.sub (T' := [Env.lst VR _ k RX, iseenT mb Sn]) [1, 2] rfl (by simp) (by simp)
          rw [← HQ] at K
          clear HQ
          go_wp2_with fail
          go_roundw
          case rel => exact ⟨j + 1, k, _, Sn, by go_num, by omega, rfl, by omega, HS, K⟩
          case measure => simp [intOf]; omega
        | true =>
          have hh : decide (es ∈ Sn) = false := by rw [hask]; simpa using hp
          rw [hh] at hlk
          replace HQ := Lib.hid (HQ.out.1 rfl)
          replace HS := Lib.hid (HS1.out rfl)
          obtain ⟨W', hup, KM, _⟩ := env_iput K 2 rfl (of_decide_eq_false hh)
          simp only [List.set] at KM
          clear hask hp HS0 HS1 hh
          go_upto_region 8 with fail
          clear hup hlk K c0 c1 c2 c3 c4 c5 c6 c7
          have KB := KM.al (.cells #[.bool false, .int .i64 eq, .int .i64 es, .int .i64 ek, .int .i64 eb, .string ed, .int .i64 ee, .string ex] 36)
          go_wp2_with (first
            | ((with_reducible refine Plan.load_lit 36 (.tmp 6) g ?_ (KM.get 0 rfl) Try.underlying36 ?_ ?_ ?_); (· rfl); (· rfl); (· exact ev_info); simp only [Act.put, List.setIfInBounds_toArray, List.set_cons_zero, List.set_cons_succ])
            | (refine KB.apps_one vrOk rfl (.tmp 27) (.tmp 29) rfl 2 0 rfl rfl (e := ⟨false, eq, es, ek, eb, ed, ee, ex⟩) rfl rfl (by omega) ?_; intro g3 c3 w3 K8 k8; simp only [List.set] at K8 k8; simp only [Act.put, List.setIfInBounds_toArray, List.set_cons_zero, List.set_cons_succ]; clear KB KM k8))
          have K9 := K8.sub (T' := [Env.lst VR (Env.slv g3 (k + 1) c3) (k + 1) (RX ++ [⟨false, eq, es, ek, eb, ed, ee, ex⟩]), iseenT mb (es :: Sn)]) [2, 3] rfl (by simp) (by simp)
          rw [← HQ.out] at K9
          go_roundw
          case rel => exact ⟨j + 1, k + 1, _, es :: Sn, by go_num, by omega, rfl, by omega, HS, K9⟩
          case measure => simp [intOf]; omega
    · obtain rfl : j = n := by omega
      have hjI : ¬ (j : Int) < (j : Int) := by omega
      go_wp2_with fail
      go_ret
      subst hmb
      exact ⟨_, rfl, ⟨_, K.own 0 rfl⟩, K.hb⟩
set_option maxHeartbeats 8000000 in
set_option maxRecDepth 20000 in
theorem hisResults_any (F : Nat → Prop) (L : List Ev) (a : Option Addr) (n c : Nat) (w : World) (hl : VList w F a n c L) :
    Calls Try.prog 31 #[.slice a n c] w (RMPost w (rsF L n)) := by
  have hcp := hl.cap
  unfold maxLen at hcp
  have HAT := Lib.hid (fun W (h : Below w.heap.size w W) i (hi : i < n) => ev_at (hl.same h) i hi)
  have hmm := fun W => (show (Instr.makeMap 52 none).run Try.prog W = .ok (.map (some W.heap.size)) (W.alloc (.map #[] 0)) from rfl)
  have K := env_mnew (Env.start w)
  rw [show (fun _ => none : Int → Option Value) = rsF L 0 from funext fun z => by simp [rsF, ret_start]] at K
  unfold RMPost
  clear hl
  go_enter Try.func31, Try.ntmps31
  go_wp2_with fail
  clear hmm
  generalize hmb : w.heap.size = mb at *
  generalize w.alloc (.map #[] 0) = w0 at *
  go_loopw [11] (fun x wr => ∃ (j : Nat), x = .int .i64 (j : Int) ∧ j ≤ n ∧ Env w wr [imapT mb (rsF L j)]) (fun x _ => n - (intOf x).toNat)
  case atStart => exact ⟨0, rfl, by omega, K⟩
  case round =>
    clear K
    obtain ⟨j, rfl, hj, K⟩ := hrel
    by_cases hlt : j < n
    · obtain ⟨x, e, rfl, he, c0, c1, c2, c3, c4, c5, c6, c7⟩ := HAT.out wr (hmb ▸ K.hb) j hlt
      have hjI : (j : Int) < (n : Int) := by omega
      have HQ0 := Lib.hid (fun h => rsF_same he h)
      have HQ1 := Lib.hid (fun h1 h2 => rsF_more he h1 h2)
      obtain ⟨er, eq, es, ek, eb, ed, ee, ex⟩ := e
      simp only at c0 c1 c2 c3 c4 c5 c6 c7 HQ0 HQ1
      clear he
      have hlk := (imap_look resm_und resm_zero (env_mget (K.al (.cells #[.bool er, .int .i64 eq, .int .i64 es, .int .i64 ek, .int .i64 eb, .string ed, .int .i64 ee, .string ex] 36)) 1 rfl) es).1
      rw [show rsF L j es = (retE L j es).map rsV from rfl] at hlk
      go_upto_region 5 with fail
      replace K := K.al (.cells #[.bool er, .int .i64 eq, .int .i64 es, .int .i64 ek, .int .i64 eb, .string ed, .int .i64 ee, .string ex] 36)
      obtain ⟨g, hg⟩ : ∃ g, wr.heap.size = g := ⟨_, rfl⟩
      rw [hg] at K
      simp only [hg]
      generalize wr.alloc (.cells #[.bool er, .int .i64 eq, .int .i64 es, .int .i64 ek, .int .i64 eb, .string ed, .int .i64 ee, .string ex] 36) = w1 at *
      clear c0 c1 c2 c3 c4 c5 c6 c7 hg
      obtain ⟨c0, c1, c2, c3, c4, c5, c6, c7⟩ := ev_cells (K.get 0 rfl)
      cases hrt : retE L j es with
      | some y =>
        rw [hrt] at hlk
        simp only [Option.map_some, Option.getD_some, Option.isSome_some] at hlk
        replace HQ := HQ0.out (.inr (by rw [hrt]; rfl))
        have KB := K.al (.cells #[.int .i64 y.err, .string y.res] 34)
        replace K := KB.sub (T' := [imapT mb (rsF L j)]) [2] rfl (by simp) (by simp)
        rw [← HQ] at K
        clear HQ HQ0 HQ1 hrt
        go_upto_region 6 with fail
        clear hlk c0 c1 c2 c3 c4 c5 c6 c7
        obtain ⟨c0, c1, c2, c3, c4, c5, c6, c7⟩ := ev_cells (KB.get 1 rfl)
        cases er
        · go_wp2_with fail
          go_roundw
          case rel => exact ⟨j + 1, by go_num, by omega, K⟩
          case measure => simp [intOf]; omega
        · go_wp2_with fail
          go_roundw
          case rel => exact ⟨j + 1, by go_num, by omega, K⟩
          case measure => simp [intOf]; omega
      | none =>
        rw [hrt] at hlk
        simp only [Option.map_none, Option.getD_none, Option.isSome_none] at hlk
        cases er with
        | false =>
          replace HQ := HQ0.out (.inl rfl)
          have KB := K.al (.cells #[.int .i64 0, .string ⟨#[]⟩] 34)
          replace K := KB.sub (T' := [imapT mb (rsF L j)]) [2] rfl (by simp) (by simp)
          rw [← HQ] at K
          clear HQ HQ0 HQ1 hrt
          go_upto_region 6 with fail
          clear hlk c0 c1 c2 c3 c4 c5 c6 c7
          obtain ⟨c0, c1, c2, c3, c4, c5, c6, c7⟩ := ev_cells (KB.get 1 rfl)
          go_wp2_with fail
          go_roundw
          case rel => exact ⟨j + 1, by go_num, by omega, K⟩
          case measure => simp [intOf]; omega
        | true =>
          replace HQ := Lib.hid (HQ1.out rfl hrt)
          have KB := K.al (.cells #[.int .i64 0, .string ⟨#[]⟩] 34)
          obtain ⟨W', hup, KM, _⟩ := env_mput resm_und KB 2 rfl es (rsV ⟨true, eq, es, ek, eb, ed, ee, ex⟩)
          simp only [List.set] at KM
          simp only [rsV] at hup
          clear HQ0 HQ1 hrt
          go_upto_region 6 with fail
          clear hlk c0 c1 c2 c3 c4 c5 c6 c7
          obtain ⟨c0, c1, c2, c3, c4, c5, c6, c7⟩ := ev_cells (KB.get 1 rfl)
          go_wp2_with fail
          replace KM := KM.sub (T' := [imapT mb (putF (rsF L j) es (rsV ⟨true, eq, es, ek, eb, ed, ee, ex⟩))]) [2] rfl (by simp) (by simp)
          rw [← HQ.out] at KM
          go_roundw
          case rel => exact ⟨j + 1, by go_num, by omega, KM⟩
          case measure => simp [intOf]; omega
    · obtain rfl : j = n := by omega
      have hjI : ¬ (j : Int) < (j : Int) := by omega
      go_wp2_with fail
      go_ret
      subst hmb
      exact ⟨_, rfl, Nat.le_refl _, env_mget K 0 rfl, K.hb⟩
end Go.Proofs.Ytkamadeekkccgaa.Ents
namespace Go.Proofs.Ytkamadeekkccgaa.HisMath
/-- the list while its elements get their results, one after the other -/
def midL (L C : List Ev) (i : Nat) : List Ev := (C.take i).map (opOf L) ++ C.drop i
theorem mid_zero (L C : List Ev) : midL L C 0 = C := by simp [midL]
theorem mid_all (L C : List Ev) : midL L C C.length = C.map (opOf L) := by simp [midL]
theorem mid_at {L C : List Ev} {i : Nat} {e : Ev} (h : C[i]? = some e) : (midL L C i)[i]? = some e := by
  have hlt := (List.getElem?_eq_some_iff.1 h).1
  unfold midL
  rw [List.getElem?_append_right (by simp; omega), List.length_map, List.length_take, Nat.min_eq_left (by omega), Nat.sub_self, List.getElem?_drop, Nat.add_zero]
  exact h
theorem mid_set {L C : List Ev} {i : Nat} {e : Ev} (h : C[i]? = some e) : (midL L C i).set i (opOf L e) = midL L C (i + 1) := by
  have hlt := (List.getElem?_eq_some_iff.1 h).1
  unfold midL
  rw [take_snoc h, List.map_append, List.set_append_right _ _ (by simp; omega), List.length_map, List.length_take, Nat.min_eq_left (by omega), Nat.sub_self, List.drop_eq_getElem_cons hlt, List.set_cons_zero, List.append_assoc]
  rfl
theorem mid_same {L C : List Ev} {i : Nat} {e : Ev} (h : C[i]? = some e) (hs : opOf L e = e) : midL L C i = midL L C (i + 1) := by
  rw [← mid_set h, hs]
  have := mid_at (L := L) h
  apply List.ext_getElem?
  intro k
  by_cases hk : i = k
  · subst hk
    rw [this, List.getElem?_set_self (List.getElem?_eq_some_iff.1 this).1]
  · rw [List.getElem?_set_ne hk]
def penO (X : List Ev) : List Int := (X.filter (fun e => !e.ret)).map (·.serial)
theorem pen_next {X : List Ev} {j : Nat} {e : Ev} (h : X[j]? = some e) : (e.ret = false → penO (X.take (j + 1)) = penO (X.take j) ++ [e.serial]) ∧ (e.ret = true → penO (X.take (j + 1)) = penO (X.take j)) := by
  unfold penO
  rw [take_snoc h, List.filter_append, List.map_append]
  exact ⟨fun hr => by simp [hr], fun hr => by simp [hr]⟩
theorem op_pend {L : List Ev} {e : Ev} (hr : e.ret = false) : (opOf L e).ret = !decide (retI L e.serial < 0) ∧ (opOf L e).serial = e.serial := by
  unfold opOf
  by_cases h : 0 ≤ retI L e.serial
  · obtain ⟨i, y, hi, hy, _, _⟩ := seek_is h
    rw [if_pos h, show retI L e.serial = (i : Int) from hi, Int.toNat_natCast, hy]
    exact ⟨by simp, rfl⟩
  · rw [if_neg h]
    have h2 : retI L e.serial < 0 := by omega
    exact ⟨by simp [hr, h2], rfl⟩
theorem pend_ops (L : List Ev) : ∀ n, pendE L n = penO (opsE L n)
  | 0 => rfl
  | n + 1 => by
    have ih := pend_ops L n
    cases h : L[n]? with
    | none => simp [pendE, opsE, h, ih]
    | some e =>
      cases hp : opsB L n e
      · have h2 : pendB L n e = false := by unfold pendB; unfold opsB at hp; rw [hp]; rfl
        simp [pendE, opsE, h, hp, h2, ih]
      · have hr : e.ret = false := by cases hr : e.ret <;> simp_all [opsB]
        have h2 : pendB L n e = decide (retI L e.serial < 0) := by unfold pendB; unfold opsB at hp; rw [hp]; rfl
        have ho := op_pend (L := L) hr
        by_cases h3 : retI L e.serial < 0
        · simp [pendE, opsE, h, hp, h2, ih, h3, penO, List.filter_append, ho]
        · simp [pendE, opsE, h, hp, h2, ih, h3, penO, List.filter_append, ho]
end Go.Proofs.Ytkamadeekkccgaa.HisMath
namespace Go.Proofs.Ytkamadeekkccgaa.Ents
open Go.RowKit Plan HisMath Rws Env LayMath CmdMath
set_option maxHeartbeats 8000000 in
set_option maxRecDepth 20000 in
theorem hisOps_any (F : Nat → Prop) (L : List Ev) (a : Option Addr) (n c : Nat) (w : World) (hl : VList w F a n c L) (hm : n ≤ 100000) :
    Calls Try.prog 15 #[.slice a n c] w (VPost w (opsE L n)) := by
  refine (?_ : Calls Try.prog 15 #[.slice a n c] w (OVPost w (opsE L n))).mono fun _ _ h => own_vpost h
  have hlen := hl.length
  have HC := Lib.hid (fun W (h : Below w.heap.size w W) => hisCalls_any _ L a n c W (hl.same h) hm)
  have HR := Lib.hid (fun W (h : Below w.heap.size w W) => hisResults_any _ L a n c W (hl.same h))
  have hcm := calls_map L n
  have hcl := calls_len L n
  have HCI := Lib.hid (calls_inv L n)
  have HF : ∀ z, rsF L n z = (retE L L.length z).map rsV := fun z => by rw [hlen]; rfl
  generalize callsE L n = C at *
  generalize rsF L n = f at *
  have K := Env.start w
  unfold OVPost at HC
  unfold RMPost at HR
  unfold OVPost
  rw [← hcm]
  clear hl hcm
  go_enter Try.func15, Try.ntmps15
  go_upto_region 2 with (first
    | (go_at_call 30; ((with_reducible refine (HC.out _ K.hb).mono ?_); rintro r9 w1 ⟨v0, rfl, ⟨m, ho⟩, h9⟩; replace K := (K.got h9 ho).1; clear h9 ho))
    | (go_at_call 31; ((with_reducible refine (HR.out _ K.hb).mono ?_); rintro r9 w2 ⟨mb, rfl, hmb, hmp, h9⟩; replace K := K.cons h9 (imap_holds (B := w.heap.size) hmp (Nat.le_trans K.hb.size hmb)) (fun g hg => by obtain rfl : g = mb := hg; exact hmb); clear h9 hmb hmp)))
  clear HC HR
  have hlC : C.length = m := owns_len vrOk (K.own 1 rfl)
  obtain ⟨ca, cc, rfl, _⟩ := K.any vrOk 1 rfl
  rw [← mid_zero L C] at K
  go_wp2_with fail
  go_loopw [15] (fun x wr => ∃ (i : Nat), x = .int .i64 (i : Int) ∧ i ≤ m ∧ Env w wr [imapT mb f, Env.lst VR (.slice ca m cc) m (midL L C i)]) (fun x _ => m - (intOf x).toNat)
  case atStart => exact ⟨0, rfl, by omega, K⟩
  case round =>
    clear K
    obtain ⟨i, rfl, hi, K⟩ := hrel
    by_cases hlt : i < m
    · have hiI : (i : Int) < (m : Int) := by omega
      obtain ⟨g, c9, e9⟩ := K.val vrOk 1 rfl (by omega)
      obtain ⟨rfl, -, rfl⟩ := Value.slice.inj e9
      clear e9
      obtain ⟨e, he⟩ : ∃ e, C[i]? = some e := ⟨_, List.getElem?_eq_getElem (by omega)⟩
      have her : e.ret = false := HCI.out e (List.mem_of_getElem? he)
      have hme := mid_at (L := L) he
      have HSET := Lib.hid (mid_set (L := L) he)
      have HSAME := Lib.hid (mid_same (L := L) he)
      have HOP := op_found (L := L) e
      have hfe := HF e.serial
      have hic : i ≤ cc := by have h9 := (K.list vrOk 1 rfl).cap; omega
      have hcap := (K.list vrOk 1 rfl).cap
      unfold maxLen at hcap
      obtain ⟨er, eq, es, ek, eb, ed, ee, ex⟩ := e
      simp only at her
      subst her
      have z0 := (K.ownF vrOk 1 rfl (k := i) (f := 0) hme (u := .bool false) rfl).1
      have z1 := (K.ownF vrOk 1 rfl (k := i) (f := 1) hme (u := .int .i64 eq) rfl).1
      have z2 := (K.ownF vrOk 1 rfl (k := i) (f := 2) hme (u := .int .i64 es) rfl).1
      have z3 := (K.ownF vrOk 1 rfl (k := i) (f := 3) hme (u := .int .i64 ek) rfl).1
      have z4 := (K.ownF vrOk 1 rfl (k := i) (f := 4) hme (u := .int .i64 eb) rfl).1
      have z5 := (K.ownF vrOk 1 rfl (k := i) (f := 5) hme (u := .string ed) rfl).1
      have z6 := (K.ownF vrOk 1 rfl (k := i) (f := 6) hme (u := .int .i64 ee) rfl).1
      have z7 := (K.ownF vrOk 1 rfl (k := i) (f := 7) hme (u := .string ex) rfl).1
      simp only [show VR.sz = 8 from rfl, Nat.add_zero] at z0 z1 z2 z3 z4 z5 z6 z7
      clear he
      have hlk := (imap_look resm_und resm_zero (env_mget (K.al (.cells #[.bool false, .int .i64 eq, .int .i64 es, .int .i64 ek, .int .i64 eb, .string ed, .int .i64 ee, .string ex] 36)) 1 rfl) es).1
      simp only at HOP hfe
      rw [hfe] at hlk
      go_upto_region 5 with fail
      replace K := K.al (.cells #[.bool false, .int .i64 eq, .int .i64 es, .int .i64 ek, .int .i64 eb, .string ed, .int .i64 ee, .string ex] 36)
      obtain ⟨ge, hg⟩ : ∃ ge, wr.heap.size = ge := ⟨_, rfl⟩
      rw [hg] at K
      simp only [hg]
      generalize wr.alloc (.cells #[.bool false, .int .i64 eq, .int .i64 es, .int .i64 ek, .int .i64 eb, .string ed, .int .i64 ee, .string ex] 36) = w3 at *
      clear z0 z1 z2 z3 z4 z5 z6 z7 hg
      obtain ⟨c0, c1, c2, c3, c4, c5, c6, c7⟩ := ev_cells (K.get 0 rfl)
      cases hrt : retE L L.length es with
      | none =>
        rw [hrt] at hlk HOP
        simp only [Option.map_none, Option.getD_none, Option.isSome_none] at hlk
        simp only at HOP
        have HS := HSAME.out HOP
        replace K := K.sub (T' := [imapT mb f, Env.lst VR (.slice (some ⟨g, 0, none⟩) m cc) m (midL L C i)]) [1, 2] rfl (by simp) (by simp)
        rw [HS] at K
        clear HS HSAME HSET hrt HOP hfe hme
        go_wp2_with fail
        replace K := K.al' (.cells #[.int .i64 0, .string ⟨#[]⟩] 34)
        go_roundw
        case rel => exact ⟨i + 1, by go_num, by omega, K⟩
        case measure => simp [intOf]; omega
      | some y =>
        rw [hrt] at hlk HOP
        simp only [Option.map_some, Option.getD_some, Option.isSome_some] at hlk
        simp only at HOP
        obtain ⟨yr, yq, ys, yk, yb, yd, ye, yx⟩ := y
        simp only [rsV] at hlk HOP
        clear hrt HSAME hfe
        rw [HOP] at HSET
        clear HOP
        go_upto_region 7 with fail
        replace K := K.al (.cells #[.int .i64 ye, .string yx] 34)
        clear hlk c0 c1 c2 c3 c4 c5 c6 c7
        obtain ⟨gr, hg⟩ : ∃ gr, w3.heap.size = gr := ⟨_, rfl⟩
        rw [hg] at K
        simp only [hg]
        generalize w3.alloc (.cells #[.int .i64 ye, .string yx] 34) = w4 at *
        clear hg
        generalize hM : midL L C i = M at *
        refine Plan.start (fun W => W.heap[gr]? = some (.cells #[.int .i64 ye, .string yx] 34 (0, 0))) [(0, true), (1, true), (2, true), (3, true), (4, true), (5, true), (6, true), (7, false), (8, true), (9, true), (10, false)] (by kernel_rfl) (by kernel_rfl) (by kernel_rfl) (by kernel_rfl) (K.drew.get 0 rfl) ?_
        simp only [List.map_cons, List.map_nil, List.getElem?_toArray, List.getElem?_cons_zero, List.getElem?_cons_succ]
        replace K := K.drew
        repeat (first | (refine Plan.take ?_ (by rfl) ?_ ?_; rotate_left; (· rintro w9 u0; go_simp; (try rw [if_neg (by omega)]); all_goals (with_reducible rfl)); simp only [Act.put, List.setIfInBounds_toArray, List.set_cons_zero, List.set_cons_succ]) | (refine Plan.pass (by rfl) ?_; simp only [Act.put, List.setIfInBounds_toArray, List.set_cons_zero, List.set_cons_succ]))
        refine Plan.take_load 34 (.tmp 7) gr _ (by rfl) rfl (by rfl) (fun w9 h9 => h9) Try.underlying34 rfl hs_info2 ?_
        simp only [Act.put, List.setIfInBounds_toArray, List.set_cons_zero, List.set_cons_succ]
        repeat (first | (refine Plan.take ?_ (by rfl) ?_ ?_; rotate_left; (· rintro w9 u0; go_simp; (try rw [if_neg (by omega)]); all_goals (with_reducible rfl)); simp only [Act.put, List.setIfInBounds_toArray, List.set_cons_zero, List.set_cons_succ]) | (refine Plan.pass (by rfl) ?_; simp only [Act.put, List.setIfInBounds_toArray, List.set_cons_zero, List.set_cons_succ]))
        refine Plan.carry (by rfl) (K.storeF vrOk 3 rfl 4 (.tmp 34) (.const (.bool true)) rfl (f := 0) ⟨true, eq, es, ek, eb, ed, ee, ex⟩ hme (by decide) (u := .bool true) rfl (i * 8) rfl rfl rfl bool_info1 rfl rfl ?_)
        intro w5 K9 _
        simp only [List.set] at K9
        refine ⟨K9.get 0 rfl, ?_⟩
        clear K
        simp only [Act.put]
        repeat (first | (refine Plan.take ?_ (by rfl) ?_ ?_; rotate_left; (· rintro w9 u0; go_simp; (try rw [if_neg (by omega)]); all_goals (with_reducible rfl)); simp only [Act.put, List.setIfInBounds_toArray, List.set_cons_zero, List.set_cons_succ]) | (refine Plan.pass (by rfl) ?_; simp only [Act.put, List.setIfInBounds_toArray, List.set_cons_zero, List.set_cons_succ]))
        have hme2 : (M.set i (⟨true, eq, es, ek, eb, ed, ee, ex⟩ : Ev))[i]? = some ⟨true, eq, es, ek, eb, ed, ee, ex⟩ := List.getElem?_set_self (List.getElem?_eq_some_iff.1 hme).1
        refine Plan.carry (by rfl) (K9.storeF2 vrOk 3 rfl 34 (.tmp 36) (.tmp 32) rfl (f := 6) ⟨true, eq, es, ek, eb, ed, ye, ex⟩ ⟨true, eq, es, ek, eb, ed, ye, yx⟩ hme2 (by decide) (u0 := .int .i64 ye) (u1 := .string yx) rfl rfl (i * 8 + 6) rfl rfl rfl hs_info2 rfl rfl ?_)
        intro w6 K _
        simp only [List.set, List.set_set] at K
        refine ⟨K.get 0 rfl, ?_⟩
        clear K9 hme2
        simp only [Act.put]
        refine Plan.ends ?_
        rw [HSET.out] at K
        replace K := K.sub (T' := [imapT mb f, Env.lst VR (.slice (some ⟨g, 0, none⟩) m cc) m (midL L C (i + 1))]) [2, 3] rfl (by simp) (by simp)
        clear hM HSET hme
        go_wp2_with fail
        go_roundw
        case rel => exact ⟨i + 1, by go_num, by omega, K⟩
        case measure => simp [intOf]; omega
    · obtain rfl : i = m := by omega
      have hiI : ¬ (i : Int) < (i : Int) := by omega
      rw [← hlC] at K
      rw [mid_all, hlC] at K
      go_wp2_with fail
      go_ret
      exact ⟨_, rfl, ⟨_, K.own 1 rfl⟩, K.hb⟩
set_option maxHeartbeats 8000000 in
set_option maxRecDepth 20000 in
theorem hisPending_any (F : Nat → Prop) (L : List Ev) (a : Option Addr) (n c : Nat) (w : World) (hl : VList w F a n c L) (hm : n ≤ 100000) :
    Calls Try.prog 16 #[.slice a n c] w (PPost w (pendE L n)) := by
  have HO := Lib.hid (hisOps_any _ L a n c w hl hm)
  have hmx : (opsE L n).length ≤ n := by rw [← calls_map, List.length_map]; exact calls_len L n
  rw [pend_ops]
  generalize opsE L n = X at *
  unfold VPost at HO
  unfold PPost
  clear hl
  go_enter Try.func16, Try.ntmps16
  go_upto_region 3 with (first
    | (go_at_call 15; ((with_reducible refine (HO.out).mono ?_); rintro r9 w1 ⟨oa, om, oc, rfl, lo, hb1⟩)))
  clear HO
  have hlen := lo.length
  have hcp := lo.cap
  unfold maxLen at hcp
  have HAT := Lib.hid (fun W (h : Below w1.heap.size w1 W) i (hi : i < om) => ev_at (lo.same h) i hi)
  have HTAKE := Lib.hid (show penO (X.take om) = penO X by rw [List.take_of_length_le (by omega)])
  have K := (Env.start w1).nil IR
  have HB1 := Lib.hid hb1
  have hom : om ≤ 100000 := by omega
  clear lo hb1 hlen hmx
  go_wp2_with fail
  go_loopw [3, 9] (fun v x wr => ∃ (j k : Nat) (u : Value), x = .int .i64 (j : Int) ∧ j ≤ om ∧ v = u ∧ k ≤ j ∧ Env w1 wr [Env.lst IR u k (penO (X.take j))]) (fun _ x _ => om - (intOf x).toNat)
  case atStart => exact ⟨0, 0, _, rfl, by omega, rfl, by omega, K⟩
  case round =>
    clear K
    obtain ⟨j, k, u, rfl, hj, rfl, hk, K⟩ := hrel
    by_cases hlt : j < om
    · obtain ⟨x, e, rfl, he, c0, c1, c2, c3, c4, c5, c6, c7⟩ := HAT.out wr K.hb j hlt
      have hjI : (j : Int) < (om : Int) := by omega
      have HQ := Lib.hid (pen_next he)
      obtain ⟨er, eq, es, ek, eb, ed, ee, ex⟩ := e
      simp only at c0 c1 c2 c3 c4 c5 c6 c7 HQ
      clear he
      generalize penO (X.take j) = RX at *
      go_upto_region 5 with fail
      replace K := K.al (.cells #[.bool er, .int .i64 eq, .int .i64 es, .int .i64 ek, .int .i64 eb, .string ed, .int .i64 ee, .string ex] 36)
      obtain ⟨g, hg⟩ : ∃ g, wr.heap.size = g := ⟨_, rfl⟩
      rw [hg] at K
      simp only [hg]
      generalize wr.alloc (.cells #[.bool er, .int .i64 eq, .int .i64 es, .int .i64 ek, .int .i64 eb, .string ed, .int .i64 ee, .string ex] 36) = w1 at *
      clear c0 c1 c2 c3 c4 c5 c6 c7 hg
      obtain ⟨c0, c1, c2, c3, c4, c5, c6, c7⟩ := ev_cells (K.get 0 rfl)
      cases er with
      | true =>
        replace HQ := HQ.out.2 rfl
        replace K := K.sub (T' := [Env.lst IR _ k RX]) [1] rfl (by simp) (by simp)
        rw [← HQ] at K
        clear HQ
        go_wp2_with fail
        go_roundw
        case rel => exact ⟨j + 1, k, _, by go_num, by omega, rfl, by omega, K⟩
        case measure => simp [intOf]; omega
      | false =>
        replace HQ := Lib.hid (HQ.out.1 rfl)
        have KB := K.al (.cells #[.int .i64 es] 3)
        go_wp2_with (first
          | (refine KB.apps_one irOk rfl (.tmp 16) (.tmp 19) rfl 2 0 rfl rfl (e := es) rfl rfl (by omega) ?_; intro g3 c3 w3 K8 k8; simp only [List.set] at K8 k8; simp only [Act.put, List.setIfInBounds_toArray, List.set_cons_zero, List.set_cons_succ]; clear KB K k8))
        have K9 := K8.sub (T' := [Env.lst IR (Env.slv g3 (k + 1) c3) (k + 1) (RX ++ [es])]) [2] rfl (by simp) (by simp)
        rw [← HQ.out] at K9
        go_roundw
        case rel => exact ⟨j + 1, k + 1, _, by go_num, by omega, rfl, by omega, K9⟩
        case measure => simp [intOf]; omega
    · obtain rfl : j = om := by omega
      have hjI : ¬ (j : Int) < (j : Int) := by omega
      rw [HTAKE.out] at K
      go_wp2_with fail
      go_ret
      obtain ⟨a9, c9, e9, l9⟩ := K.any irOk 0 rfl
      subst e9
      exact ⟨_, _, _, rfl, l9.mono fun b _ h => Nat.le_trans HB1.out.size h, HB1.out.trans (K.hb.mono HB1.out.size)⟩
end Go.Proofs.Ytkamadeekkccgaa.Ents
