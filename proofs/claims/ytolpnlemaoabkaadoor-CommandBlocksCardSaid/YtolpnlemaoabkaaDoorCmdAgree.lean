
/- The walks of the laws of commands, under the program's contracts. -/
import Derived.Test.YtolpnlemaoabkaaDoorCmdOk
import Derived.Test.YtolpnlemaoabkaaDoorCmdWords
namespace Go.Proofs.YtolpnlemaoabkaaDoor.Ents
open Go.RowKit Plan LayMath CmdMath
def KindOk : Prop := ∀ (k b : Int) (s : ByteArray) (w : World), Words w →
    Calls Tryd.prog 8 #[cmdV k b s] w fun r w' => r = .returned (.string (kindC k)) ∧ Below w.heap.size w w'
set_option maxHeartbeats 4000000 in
set_option maxRecDepth 20000 in
theorem cmdAwake_any (H : CommandOk) (HK : KindOk) (w : World) (hw : Words w) : Calls Tryd.prog 5 #[] w fun r w' => r = .returned (.bool true) ∧ Below w.heap.size w w' := by
  have K0 := (Bxs.start w).al (confRow 0 0 0 0 0 0)
  have hZ0 : (w.alloc (confRow 0 0 0 0 0 0)).heap[w.heap.size]? = some (confRow 0 0 0 0 0 0) := K0.get 0 rfl
  have H1 := Lib.hid (fun W => (show Calls Tryd.prog 6 #[confV 0 0 3 0 0 0, cmdV 2 2 ⟨#[49, 50, 51, 52, 53, 54, 55, 56, 57, 48, 49, 50, 51, 52, 53]⟩] W fun r w' => r = .returned (.int .i64 2) ∧ Below W.heap.size W w' from H.check 0 0 3 0 0 0 2 2 ⟨#[49, 50, 51, 52, 53, 54, 55, 56, 57, 48, 49, 50, 51, 52, 53]⟩ W (by unfold maxLen; decide)))
  have H2 := Lib.hid (fun W => (show Calls Tryd.prog 6 #[confV 0 0 3 0 0 0, cmdV 2 2 ⟨#[49, 50, 51, 52, 53, 54, 55, 56, 57, 48, 49, 50, 51, 52, 53, 54]⟩] W fun r w' => r = .returned (.int .i64 0) ∧ Below W.heap.size W w' from H.check 0 0 3 0 0 0 2 2 ⟨#[49, 50, 51, 52, 53, 54, 55, 56, 57, 48, 49, 50, 51, 52, 53, 54]⟩ W (by unfold maxLen; decide)))
  have H3 := Lib.hid (fun W (hb : Below w.heap.size w W) => (show Calls Tryd.prog 8 #[cmdV 3 0 ⟨#[]⟩] W fun r w' => r = .returned (.string ⟨#[116, 114, 105, 109]⟩) ∧ Below W.heap.size W w' from HK 3 0 ⟨#[]⟩ W (hw.on' hb)))
  have H4 := Lib.hid (fun W => (show Calls Tryd.prog 10 #[] W fun r w' => r = .returned (.string ⟨#[0, 0, 0, 0, 0, 0, 0, 0, 0, 0, 0, 0, 0, 0, 0, 0]⟩) ∧ Below W.heap.size W w' from H.zero W))
  unfold confV at *
  go_enter Tryd.func5, Tryd.ntmps5
  go_wp2_with (first
    | ((with_reducible refine Plan.store_lit 23 (.tmp 1) _ w.heap.size #[.int .i64 0, .int .i64 0, .int .i64 3, .int .i64 0, .int .i64 0, .int .i64 0] hZ0 ?_ ?_ ?_ ?_ ?_ ?_); rotate_left; (· rfl); (· exact conf_info); (· rfl); (· simp [Value.oneCell']); rotate_left; (· rfl); simp only [Act.put]; have K := K0.put 0 rfl (cs' := #[.int .i64 0, .int .i64 0, .int .i64 3, .int .i64 0, .int .i64 0, .int .i64 0]) (B' := [(w.heap.size, confRow 0 0 3 0 0 0)]) rfl; clear K0 hZ0; generalize World.setRow _ _ _ = w0 at *; have hT0 := K.get 0 rfl)
    | ((with_reducible refine Plan.load_lit 23 (.tmp 1) w.heap.size ?_ hT0 Tryd.underlying23 ?_ ?_ ?_); (· rfl); (· rfl); (· exact conf_info); simp only [Act.put, List.setIfInBounds_toArray, List.set_cons_zero, List.set_cons_succ])
    | ((with_reducible refine load_lit_g 23 (.tmp 1) w.heap.size ?_ ?_ hT1 Tryd.underlying23 ?_ ?_ ?_); (· rfl); (· rfl); (· rfl); (· exact conf_info); simp only [Act.put, List.setIfInBounds_toArray, List.set_cons_zero, List.set_cons_succ])
    | (go_at_call 6; ((with_reducible refine (H1.out _).mono ?_); rintro r9 w1 ⟨rfl, h1⟩; have K1 := K.on h1; clear K h1 hT0; have hT1 := K1.get 0 rfl))
    | (go_at_call 6; ((with_reducible refine (H2.out _).mono ?_); rintro r9 w2 ⟨rfl, h2⟩; have K2 := K1.on h2))
    | (go_at_call 8; ((with_reducible refine (H3.out _ K2.hb).mono ?_); rintro r9 w3 ⟨rfl, h3⟩; have K3 := K2.on h3))
    | (go_at_call 10; ((with_reducible refine (H4.out _).mono ?_); rintro r9 w4 ⟨rfl, h4⟩; have K4 := K3.on h4)))
  go_ret
  exact ⟨rfl, K4.hb⟩
set_option maxHeartbeats 8000000 in
set_option maxRecDepth 20000 in
theorem cmdExact_any (H : CommandOk) (HK : KindOk) (cz cs cb cq cd ch k b : Int) (s : ByteArray) (w : World) (hw : Words w) (hs : s.size ≤ maxLen) :
    Calls Tryd.prog 3 #[confV cz cs cb cq cd ch, cmdV k b s] w fun r w' => r = .returned (.bool true) ∧ Below w.heap.size w w' := by
  have HW := Lib.hid (fun W (hb : Below w.heap.size w W) => cmdAwake_any H HK W (hw.on' hb))
  have H1 := Lib.hid (fun W (_ : Below w.heap.size w W) => H.check cz cs cb cq cd ch k b s W hs)
  have H2 := Lib.hid (fun W (_ : Below w.heap.size w W) => refCheck_any cz cs cb cq cd ch k b s W hs)
  have H3 := Lib.hid (fun W (hb : Below w.heap.size w W) => HK k b s W (hw.on' hb))
  have H4 := Lib.hid (fun W (_ : Below w.heap.size w W) => refKind_any k b s W)
  have H5 := Lib.hid (fun W (_ : Below w.heap.size w W) => H.zero W)
  have H6 := Lib.hid (fun W (_ : Below w.heap.size w W) => refZero_any W)
  have K := ((Bxs.start w).al (confRow cz cs cb cq cd ch)).al (cmdRow k b s)
  rw [World.size_alloc] at K
  unfold confV at *
  unfold maxLen at hs
  generalize checkC cb k b s.size = E at *
  generalize kindC k = KS at *
  generalize zeroC = ZS at *
  by_cases hm : s.size ≤ 100
  · have d1 : ¬ (100 : Int) < (s.size : Int) := by omega
    go_enter Tryd.func3, Tryd.ntmps3
    generalize hw0 : (w.alloc (confRow cz cs cb cq cd ch)).alloc (cmdRow k b s) = w0 at *
    have hT0 := (cmd_cells (K.get 0 rfl)).2.2
    go_wp2_with fail
    clear hw0 hT0
    refine Plan.start (fun W => W.heap[w.heap.size]? = some (confRow cz cs cb cq cd ch) ∧ W.heap[w.heap.size + 1]? = some (cmdRow k b s)) [(0, false), (1, true), (2, true), (3, true), (5, true), (6, true), (4, false), (7, false), (8, true), (9, true), (10, true), (11, true), (13, true), (12, false), (14, false), (15, true), (16, true), (17, true), (18, false), (19, false), (20, true), (21, true), (22, true)] (by kernel_rfl) (by kernel_rfl) (by kernel_rfl) (by kernel_rfl) ⟨K.drew.get 1 rfl, K.drew.get 0 rfl⟩ ?_
    simp only [List.map_cons, List.map_nil, List.getElem?_toArray, List.getElem?_cons_zero, List.getElem?_cons_succ]
    have K2 := K.drew
    clear K
    have K := K2
    clear K2
    repeat (first | (refine Plan.take ?_ (by rfl) ?_ ?_; rotate_left; (· rintro w9 ⟨u0, u1⟩; go_simp; (try rw [if_neg (by omega)]); all_goals (with_reducible rfl)); simp only [Act.put, List.setIfInBounds_toArray, List.set_cons_zero, List.set_cons_succ]) | (refine Plan.pass (by rfl) ?_; simp only [Act.put, List.setIfInBounds_toArray, List.set_cons_zero, List.set_cons_succ]))
    refine Plan.call (by rfl) 5 _ ?_ (HW.out _ K.hb) ?_
    · go_simp
    rintro r9 w2 ⟨rfl, h2⟩
    have K2 := K.on h2
    clear K h2
    have K := K2
    clear K2
    refine ⟨_, rfl, ⟨K.get 1 rfl, K.get 0 rfl⟩, ?_⟩
    simp only [Act.put, List.setIfInBounds_toArray, List.set_cons_zero, List.set_cons_succ]
    repeat (first | (refine Plan.take ?_ (by rfl) ?_ ?_; rotate_left; (· rintro w9 ⟨u0, u1⟩; go_simp; (try rw [if_neg (by omega)]); all_goals (with_reducible rfl)); simp only [Act.put, List.setIfInBounds_toArray, List.set_cons_zero, List.set_cons_succ]) | (refine Plan.pass (by rfl) ?_; simp only [Act.put, List.setIfInBounds_toArray, List.set_cons_zero, List.set_cons_succ]))
    refine Plan.take_load 23 (.tmp 2) w.heap.size _ (by rfl) rfl (by rfl) (fun w9 h9 => h9.1) Tryd.underlying23 rfl conf_info ?_
    simp only [Act.put, List.setIfInBounds_toArray, List.set_cons_zero, List.set_cons_succ]
    repeat (first | (refine Plan.take ?_ (by rfl) ?_ ?_; rotate_left; (· rintro w9 ⟨u0, u1⟩; go_simp; (try rw [if_neg (by omega)]); all_goals (with_reducible rfl)); simp only [Act.put, List.setIfInBounds_toArray, List.set_cons_zero, List.set_cons_succ]) | (refine Plan.pass (by rfl) ?_; simp only [Act.put, List.setIfInBounds_toArray, List.set_cons_zero, List.set_cons_succ]))
    refine Plan.take_load 25 (.tmp 3) (w.heap.size + 1) _ (by rfl) rfl (by rfl) (fun w9 h9 => h9.2) Tryd.underlying25 rfl cmd_info ?_
    simp only [Act.put, List.setIfInBounds_toArray, List.set_cons_zero, List.set_cons_succ]
    repeat (first | (refine Plan.take ?_ (by rfl) ?_ ?_; rotate_left; (· rintro w9 ⟨u0, u1⟩; go_simp; (try rw [if_neg (by omega)]); all_goals (with_reducible rfl)); simp only [Act.put, List.setIfInBounds_toArray, List.set_cons_zero, List.set_cons_succ]) | (refine Plan.pass (by rfl) ?_; simp only [Act.put, List.setIfInBounds_toArray, List.set_cons_zero, List.set_cons_succ]))
    refine Plan.take_load 23 (.tmp 2) w.heap.size _ (by rfl) rfl (by rfl) (fun w9 h9 => h9.1) Tryd.underlying23 rfl conf_info ?_
    simp only [Act.put, List.setIfInBounds_toArray, List.set_cons_zero, List.set_cons_succ]
    repeat (first | (refine Plan.take ?_ (by rfl) ?_ ?_; rotate_left; (· rintro w9 ⟨u0, u1⟩; go_simp; (try rw [if_neg (by omega)]); all_goals (with_reducible rfl)); simp only [Act.put, List.setIfInBounds_toArray, List.set_cons_zero, List.set_cons_succ]) | (refine Plan.pass (by rfl) ?_; simp only [Act.put, List.setIfInBounds_toArray, List.set_cons_zero, List.set_cons_succ]))
    refine Plan.take_load 25 (.tmp 3) (w.heap.size + 1) _ (by rfl) rfl (by rfl) (fun w9 h9 => h9.2) Tryd.underlying25 rfl cmd_info ?_
    simp only [Act.put, List.setIfInBounds_toArray, List.set_cons_zero, List.set_cons_succ]
    repeat (first | (refine Plan.take ?_ (by rfl) ?_ ?_; rotate_left; (· rintro w9 ⟨u0, u1⟩; go_simp; (try rw [if_neg (by omega)]); all_goals (with_reducible rfl)); simp only [Act.put, List.setIfInBounds_toArray, List.set_cons_zero, List.set_cons_succ]) | (refine Plan.pass (by rfl) ?_; simp only [Act.put, List.setIfInBounds_toArray, List.set_cons_zero, List.set_cons_succ]))
    refine Plan.call (by rfl) 6 _ ?_ (H1.out _ K.hb) ?_
    · go_simp
    rintro r9 w2 ⟨rfl, h2⟩
    have K2 := K.on h2
    clear K h2
    have K := K2
    clear K2
    refine ⟨_, rfl, ⟨K.get 1 rfl, K.get 0 rfl⟩, ?_⟩
    simp only [Act.put, List.setIfInBounds_toArray, List.set_cons_zero, List.set_cons_succ]
    repeat (first | (refine Plan.take ?_ (by rfl) ?_ ?_; rotate_left; (· rintro w9 ⟨u0, u1⟩; go_simp; (try rw [if_neg (by omega)]); all_goals (with_reducible rfl)); simp only [Act.put, List.setIfInBounds_toArray, List.set_cons_zero, List.set_cons_succ]) | (refine Plan.pass (by rfl) ?_; simp only [Act.put, List.setIfInBounds_toArray, List.set_cons_zero, List.set_cons_succ]))
    refine Plan.call (by rfl) 7 _ ?_ (H2.out _ K.hb) ?_
    · go_simp
    rintro r9 w2 ⟨rfl, h2⟩
    have K2 := K.on h2
    clear K h2
    have K := K2
    clear K2
    refine ⟨_, rfl, ⟨K.get 1 rfl, K.get 0 rfl⟩, ?_⟩
    simp only [Act.put, List.setIfInBounds_toArray, List.set_cons_zero, List.set_cons_succ]
    repeat (first | (refine Plan.take ?_ (by rfl) ?_ ?_; rotate_left; (· rintro w9 ⟨u0, u1⟩; go_simp; (try rw [if_neg (by omega)]); all_goals (with_reducible rfl)); simp only [Act.put, List.setIfInBounds_toArray, List.set_cons_zero, List.set_cons_succ]) | (refine Plan.pass (by rfl) ?_; simp only [Act.put, List.setIfInBounds_toArray, List.set_cons_zero, List.set_cons_succ]))
    refine Plan.take_load 25 (.tmp 3) (w.heap.size + 1) _ (by rfl) rfl (by rfl) (fun w9 h9 => h9.2) Tryd.underlying25 rfl cmd_info ?_
    simp only [Act.put, List.setIfInBounds_toArray, List.set_cons_zero, List.set_cons_succ]
    repeat (first | (refine Plan.take ?_ (by rfl) ?_ ?_; rotate_left; (· rintro w9 ⟨u0, u1⟩; go_simp; (try rw [if_neg (by omega)]); all_goals (with_reducible rfl)); simp only [Act.put, List.setIfInBounds_toArray, List.set_cons_zero, List.set_cons_succ]) | (refine Plan.pass (by rfl) ?_; simp only [Act.put, List.setIfInBounds_toArray, List.set_cons_zero, List.set_cons_succ]))
    refine Plan.take_load 25 (.tmp 3) (w.heap.size + 1) _ (by rfl) rfl (by rfl) (fun w9 h9 => h9.2) Tryd.underlying25 rfl cmd_info ?_
    simp only [Act.put, List.setIfInBounds_toArray, List.set_cons_zero, List.set_cons_succ]
    repeat (first | (refine Plan.take ?_ (by rfl) ?_ ?_; rotate_left; (· rintro w9 ⟨u0, u1⟩; go_simp; (try rw [if_neg (by omega)]); all_goals (with_reducible rfl)); simp only [Act.put, List.setIfInBounds_toArray, List.set_cons_zero, List.set_cons_succ]) | (refine Plan.pass (by rfl) ?_; simp only [Act.put, List.setIfInBounds_toArray, List.set_cons_zero, List.set_cons_succ]))
    refine Plan.call (by rfl) 8 _ ?_ (H3.out _ K.hb) ?_
    · go_simp
    rintro r9 w2 ⟨rfl, h2⟩
    have K2 := K.on h2
    clear K h2
    have K := K2
    clear K2
    refine ⟨_, rfl, ⟨K.get 1 rfl, K.get 0 rfl⟩, ?_⟩
    simp only [Act.put, List.setIfInBounds_toArray, List.set_cons_zero, List.set_cons_succ]
    repeat (first | (refine Plan.take ?_ (by rfl) ?_ ?_; rotate_left; (· rintro w9 ⟨u0, u1⟩; go_simp; (try rw [if_neg (by omega)]); all_goals (with_reducible rfl)); simp only [Act.put, List.setIfInBounds_toArray, List.set_cons_zero, List.set_cons_succ]) | (refine Plan.pass (by rfl) ?_; simp only [Act.put, List.setIfInBounds_toArray, List.set_cons_zero, List.set_cons_succ]))
    refine Plan.call (by rfl) 9 _ ?_ (H4.out _ K.hb) ?_
    · go_simp
    rintro r9 w2 ⟨rfl, h2⟩
    have K2 := K.on h2
    clear K h2
    have K := K2
    clear K2
    refine ⟨_, rfl, ⟨K.get 1 rfl, K.get 0 rfl⟩, ?_⟩
    simp only [Act.put, List.setIfInBounds_toArray, List.set_cons_zero, List.set_cons_succ]
    repeat (first | (refine Plan.take ?_ (by rfl) ?_ ?_; rotate_left; (· rintro w9 ⟨u0, u1⟩; go_simp; (try rw [if_neg (by omega)]); all_goals (with_reducible rfl)); simp only [Act.put, List.setIfInBounds_toArray, List.set_cons_zero, List.set_cons_succ]) | (refine Plan.pass (by rfl) ?_; simp only [Act.put, List.setIfInBounds_toArray, List.set_cons_zero, List.set_cons_succ]))
    refine Plan.call (by rfl) 10 _ ?_ (H5.out _ K.hb) ?_
    · go_simp
    rintro r9 w2 ⟨rfl, h2⟩
    have K2 := K.on h2
    clear K h2
    have K := K2
    clear K2
    refine ⟨_, rfl, ⟨K.get 1 rfl, K.get 0 rfl⟩, ?_⟩
    simp only [Act.put, List.setIfInBounds_toArray, List.set_cons_zero, List.set_cons_succ]
    repeat (first | (refine Plan.take ?_ (by rfl) ?_ ?_; rotate_left; (· rintro w9 ⟨u0, u1⟩; go_simp; (try rw [if_neg (by omega)]); all_goals (with_reducible rfl)); simp only [Act.put, List.setIfInBounds_toArray, List.set_cons_zero, List.set_cons_succ]) | (refine Plan.pass (by rfl) ?_; simp only [Act.put, List.setIfInBounds_toArray, List.set_cons_zero, List.set_cons_succ]))
    refine Plan.call (by rfl) 11 _ ?_ (H6.out _ K.hb) ?_
    · go_simp
    rintro r9 w2 ⟨rfl, h2⟩
    have K2 := K.on h2
    clear K h2
    have K := K2
    clear K2
    refine ⟨_, rfl, ⟨K.get 1 rfl, K.get 0 rfl⟩, ?_⟩
    simp only [Act.put, List.setIfInBounds_toArray, List.set_cons_zero, List.set_cons_succ]
    repeat (first | (refine Plan.take ?_ (by rfl) ?_ ?_; rotate_left; (· rintro w9 ⟨u0, u1⟩; go_simp; (try rw [if_neg (by omega)]); all_goals (with_reducible rfl)); simp only [Act.put, List.setIfInBounds_toArray, List.set_cons_zero, List.set_cons_succ]) | (refine Plan.pass (by rfl) ?_; simp only [Act.put, List.setIfInBounds_toArray, List.set_cons_zero, List.set_cons_succ]))
    refine Plan.ends ?_
    go_wp2_with fail
    go_ret
    exact ⟨rfl, K.hb⟩
  · have d1 : (100 : Int) < (s.size : Int) := by omega
    go_enter Tryd.func3, Tryd.ntmps3
    generalize hw0 : (w.alloc (confRow cz cs cb cq cd ch)).alloc (cmdRow k b s) = w0 at *
    have hT0 := (cmd_cells (K.get 0 rfl)).2.2
    go_wp2_with (first
      | (go_at_call 5; ((with_reducible refine (HW.out _ K.hb).mono ?_); rintro r9 w1 ⟨rfl, h1⟩; have K1 := K.on h1)))
    go_ret
    exact ⟨rfl, K1.hb⟩
set_option maxHeartbeats 8000000 in
set_option maxRecDepth 20000 in
theorem cmdBlocks_any (H : CommandOk) (HK : KindOk) (cz cs cb cq cd ch dz ds db dq dd dh k b m : Int) (s : ByteArray) (w : World) (hw : Words w) (hs : s.size ≤ maxLen) (hm0 : 0 ≤ m ∧ m ≤ 255) (hcb : -9223372036854775808 ≤ cb) :
    Calls Tryd.prog 4 #[confV cz cs cb cq cd ch, confV dz ds db dq dd dh, cmdV k b s, .int .u8 m] w fun r w' => r = .returned (.bool true) ∧ Below w.heap.size w w' := by
  have HW := Lib.hid (fun W (hb : Below w.heap.size w W) => cmdAwake_any H HK W (hw.on' hb))
  have H1 := Lib.hid (fun W (_ : Below w.heap.size w W) => H.check cz cs cb cq cd ch k b s W hs)
  have H2 := Lib.hid (fun W (_ : Below w.heap.size w W) => H.check dz ds cb dq dd dh k b s W hs)
  have H3 := Lib.hid (fun W (_ : Below w.heap.size w W) => H.check cz cs (cb + m) cq cd ch k b s W hs)
  have hmore := fun h : checkC cb k b s.size = 0 => check_more (m := m) hm0.1 h
  have K := (((Bxs.start w).al (confRow cz cs cb cq cd ch)).al (confRow dz ds db dq dd dh)).al (cmdRow k b s)
  simp only [World.size_alloc] at K
  unfold confV at *
  unfold maxLen at hs
  by_cases hm : s.size ≤ 100
  · have d1 : ¬ (100 : Int) < (s.size : Int) := by omega
    by_cases hb : cb ≤ 1099511627776
    · have d2 : ¬ (1099511627776 : Int) < cb := by omega
      have hw1 : wrap64 (cb + m) = cb + m := by unfold wrap64; omega
      generalize checkC cb k b s.size = E at *
      by_cases hE : E = 0
      · subst hE
        rw [hmore rfl] at H3
        clear hmore
        go_enter Tryd.func4, Tryd.ntmps4
        generalize hw0 : ((w.alloc (confRow cz cs cb cq cd ch)).alloc (confRow dz ds db dq dd dh)).alloc (cmdRow k b s) = w0 at *
        have hX0 := (cmd_cells (K.get 0 rfl)).2.2
        have hC0 : w0.cell? ⟨w.heap.size, 2, none⟩ = some (.int .i64 cb) := cell_of_row _ _ 2 _ _ _ (K.get 2 rfl)
        have hD0 : w0.heap[w.heap.size + 1]? = some (confRow dz ds db dq dd dh) := K.get 1 rfl
        go_upto_region 4 with (first
          | ((refine Put.wp_store_int 3 (.tmp 23) (.tmp 22) rfl (w.heap.size + 1) 2 .i64 cb rfl rfl ⟨_, cell_of_row _ _ 2 _ _ _ hD0⟩ (cm_free hD0) Put.int_info1 ?_); simp only [Act.put]; rw [setCell_eq_setRow _ _ _ _ _ _ _ hD0]; simp only [List.setIfInBounds_toArray, List.set_cons_zero, List.set_cons_succ]))
        have K1 := K.put 1 rfl (cs' := #[.int .i64 dz, .int .i64 ds, .int .i64 cb, .int .i64 dq, .int .i64 dd, .int .i64 dh]) (B' := [(w.heap.size + 1 + 1, cmdRow k b s), (w.heap.size + 1, confRow dz ds cb dq dd dh), (w.heap.size, confRow cz cs cb cq cd ch)]) rfl
        clear K hX0 hC0 hD0
        generalize World.setRow w0 _ _ = w1 at *
        have hX1 : w1.heap[w.heap.size + 1 + 1]? = some (cmdRow k b s) := K1.get 0 rfl
        have hC1 : w1.heap[w.heap.size]? = some (confRow cz cs cb cq cd ch) := K1.get 2 rfl
        go_upto_region 6 with (first
          | ((with_reducible refine Plan.load_lit 23 (.tmp 4) w.heap.size ?_ hC1 Tryd.underlying23 ?_ ?_ ?_); (· rfl); (· rfl); (· exact conf_info); simp only [Act.put, List.setIfInBounds_toArray, List.set_cons_zero, List.set_cons_succ])
          | ((with_reducible refine Plan.load_lit 25 (.tmp 6) (w.heap.size + 1 + 1) ?_ hX1 Tryd.underlying25 ?_ ?_ ?_); (· rfl); (· rfl); (· exact cmd_info); simp only [Act.put, List.setIfInBounds_toArray, List.set_cons_zero, List.set_cons_succ])
          | (go_at_call 6; ((with_reducible refine (H1.out _ K1.hb).mono ?_); rintro r9 w2 ⟨rfl, h2⟩; have K2 := (K1.on h2).al (confRow 0 0 0 0 0 0); have hZ2 := heap_alloc_new w2 (confRow 0 0 0 0 0 0); have hC1 : (w2.alloc (confRow 0 0 0 0 0 0)).heap[w.heap.size]? = some (confRow cz cs cb cq cd ch) := K2.get 3 rfl; have hC2 : w2.heap[w.heap.size]? = some (confRow cz cs cb cq cd ch) := (K1.on h2).get 2 rfl; clear K1 h2 hX1))
          | ((with_reducible refine Plan.load_lit 23 (.tmp 4) w.heap.size ?_ hC2 Tryd.underlying23 ?_ ?_ ?_); (· rfl); (· rfl); (· exact conf_info); simp only [Act.put, List.setIfInBounds_toArray, List.set_cons_zero, List.set_cons_succ])
          | ((with_reducible refine Plan.store_lit 23 (.tmp 10) _ w2.heap.size #[.int .i64 cz, .int .i64 cs, .int .i64 cb, .int .i64 cq, .int .i64 cd, .int .i64 ch] hZ2 ?_ ?_ ?_ ?_ ?_ ?_); rotate_left; (· rfl); (· exact conf_info); (· rfl); (· simp [Value.oneCell']); rotate_left; (· rfl); simp only [Act.put]))
        have K3 := K2.put 0 rfl (cs' := #[.int .i64 cz, .int .i64 cs, .int .i64 cb, .int .i64 cq, .int .i64 cd, .int .i64 ch]) (B' := [(w2.heap.size, confRow cz cs cb cq cd ch), (w.heap.size + 1 + 1, cmdRow k b s), (w.heap.size + 1, confRow dz ds cb dq dd dh), (w.heap.size, confRow cz cs cb cq cd ch)]) rfl
        clear K2 hZ2 hC1 hC2
        generalize World.setRow _ w2.heap.size _ = w3 at *
        generalize w2.heap.size = T2 at *
        have hC3 : w3.cell? ⟨w.heap.size, 2, none⟩ = some (.int .i64 cb) := cell_of_row _ _ 2 _ _ _ (K3.get 3 rfl)
        have hT3 : w3.heap[T2]? = some (confRow cz cs cb cq cd ch) := K3.get 0 rfl
        go_upto_region 7 with (first
          | ((refine Put.wp_store_int 3 (.tmp 33) (.tmp 32) rfl T2 2 .i64 (cb + m) rfl rfl ⟨_, cell_of_row _ _ 2 _ _ _ hT3⟩ (cm_free hT3) Put.int_info1 ?_); simp only [Act.put]; rw [setCell_eq_setRow _ _ _ _ _ _ _ hT3]; simp only [List.setIfInBounds_toArray, List.set_cons_zero, List.set_cons_succ]))
        have K4 := K3.put 0 rfl (cs' := #[.int .i64 cz, .int .i64 cs, .int .i64 (cb + m), .int .i64 cq, .int .i64 cd, .int .i64 ch]) (B' := [(T2, confRow cz cs (cb + m) cq cd ch), (w.heap.size + 1 + 1, cmdRow k b s), (w.heap.size + 1, confRow dz ds cb dq dd dh), (w.heap.size, confRow cz cs cb cq cd ch)]) rfl
        clear K3 hC3 hT3
        generalize World.setRow w3 _ _ = w4 at *
        go_wp2_with (first
          | (go_at_call 5; ((with_reducible refine (HW.out _ K4.hb).mono ?_); rintro r9 w5 ⟨rfl, h5⟩; have K5 := K4.on h5; clear K4 h5; have hD5 : w5.heap[w.heap.size + 1]? = some (confRow dz ds cb dq dd dh) := K5.get 2 rfl; have hX5 : w5.heap[w.heap.size + 1 + 1]? = some (cmdRow k b s) := K5.get 1 rfl))
          | ((with_reducible refine load_lit_g 23 (.tmp 5) (w.heap.size + 1) ?_ ?_ hD5 Tryd.underlying23 ?_ ?_ ?_); (· rfl); (· rfl); (· rfl); (· exact conf_info); simp only [Act.put, List.setIfInBounds_toArray, List.set_cons_zero, List.set_cons_succ])
          | ((with_reducible refine load_lit_g 25 (.tmp 6) (w.heap.size + 1 + 1) ?_ ?_ hX5 Tryd.underlying25 ?_ ?_ ?_); (· rfl); (· rfl); (· rfl); (· exact cmd_info); simp only [Act.put, List.setIfInBounds_toArray, List.set_cons_zero, List.set_cons_succ])
          | (go_at_call 6; ((with_reducible refine (H2.out _ K5.hb).mono ?_); rintro r9 w6 ⟨rfl, h6⟩; have K6 := K5.on h6; clear K5 h6 hD5 hX5; have hT6 : w6.heap[T2]? = some (confRow cz cs (cb + m) cq cd ch) := K6.get 0 rfl; have hX6 : w6.heap[w.heap.size + 1 + 1]? = some (cmdRow k b s) := K6.get 1 rfl))
          | ((with_reducible refine load_lit_g 23 (.tmp 10) T2 ?_ ?_ hT6 Tryd.underlying23 ?_ ?_ ?_); (· rfl); (· rfl); (· rfl); (· exact conf_info); simp only [Act.put, List.setIfInBounds_toArray, List.set_cons_zero, List.set_cons_succ])
          | ((with_reducible refine load_lit_g 25 (.tmp 6) (w.heap.size + 1 + 1) ?_ ?_ hX6 Tryd.underlying25 ?_ ?_ ?_); (· rfl); (· rfl); (· rfl); (· exact cmd_info); simp only [Act.put, List.setIfInBounds_toArray, List.set_cons_zero, List.set_cons_succ])
          | (go_at_call 6; ((with_reducible refine (H3.out _ K6.hb).mono ?_); rintro r9 w7 ⟨rfl, h7⟩; have K7 := K6.on h7)))
        go_ret
        exact ⟨rfl, K7.hb⟩
      · have d3 : (E != 0) = true := by simpa using hE
        clear hmore hE
        go_enter Tryd.func4, Tryd.ntmps4
        generalize hw0 : ((w.alloc (confRow cz cs cb cq cd ch)).alloc (confRow dz ds db dq dd dh)).alloc (cmdRow k b s) = w0 at *
        have hX0 := (cmd_cells (K.get 0 rfl)).2.2
        have hC0 : w0.cell? ⟨w.heap.size, 2, none⟩ = some (.int .i64 cb) := cell_of_row _ _ 2 _ _ _ (K.get 2 rfl)
        have hD0 : w0.heap[w.heap.size + 1]? = some (confRow dz ds db dq dd dh) := K.get 1 rfl
        go_upto_region 4 with (first
          | ((refine Put.wp_store_int 3 (.tmp 23) (.tmp 22) rfl (w.heap.size + 1) 2 .i64 cb rfl rfl ⟨_, cell_of_row _ _ 2 _ _ _ hD0⟩ (cm_free hD0) Put.int_info1 ?_); simp only [Act.put]; rw [setCell_eq_setRow _ _ _ _ _ _ _ hD0]; simp only [List.setIfInBounds_toArray, List.set_cons_zero, List.set_cons_succ]))
        have K1 := K.put 1 rfl (cs' := #[.int .i64 dz, .int .i64 ds, .int .i64 cb, .int .i64 dq, .int .i64 dd, .int .i64 dh]) (B' := [(w.heap.size + 1 + 1, cmdRow k b s), (w.heap.size + 1, confRow dz ds cb dq dd dh), (w.heap.size, confRow cz cs cb cq cd ch)]) rfl
        clear K hX0 hC0 hD0
        generalize World.setRow w0 _ _ = w1 at *
        have hX1 : w1.heap[w.heap.size + 1 + 1]? = some (cmdRow k b s) := K1.get 0 rfl
        have hC1 : w1.heap[w.heap.size]? = some (confRow cz cs cb cq cd ch) := K1.get 2 rfl
        go_upto_region 6 with (first
          | ((with_reducible refine Plan.load_lit 23 (.tmp 4) w.heap.size ?_ hC1 Tryd.underlying23 ?_ ?_ ?_); (· rfl); (· rfl); (· exact conf_info); simp only [Act.put, List.setIfInBounds_toArray, List.set_cons_zero, List.set_cons_succ])
          | ((with_reducible refine Plan.load_lit 25 (.tmp 6) (w.heap.size + 1 + 1) ?_ hX1 Tryd.underlying25 ?_ ?_ ?_); (· rfl); (· rfl); (· exact cmd_info); simp only [Act.put, List.setIfInBounds_toArray, List.set_cons_zero, List.set_cons_succ])
          | (go_at_call 6; ((with_reducible refine (H1.out _ K1.hb).mono ?_); rintro r9 w2 ⟨rfl, h2⟩; have K2 := (K1.on h2).al (confRow 0 0 0 0 0 0); have hZ2 := heap_alloc_new w2 (confRow 0 0 0 0 0 0); have hC1 : (w2.alloc (confRow 0 0 0 0 0 0)).heap[w.heap.size]? = some (confRow cz cs cb cq cd ch) := K2.get 3 rfl; have hC2 : w2.heap[w.heap.size]? = some (confRow cz cs cb cq cd ch) := (K1.on h2).get 2 rfl; clear K1 h2 hX1))
          | ((with_reducible refine Plan.load_lit 23 (.tmp 4) w.heap.size ?_ hC2 Tryd.underlying23 ?_ ?_ ?_); (· rfl); (· rfl); (· exact conf_info); simp only [Act.put, List.setIfInBounds_toArray, List.set_cons_zero, List.set_cons_succ])
          | ((with_reducible refine Plan.store_lit 23 (.tmp 10) _ w2.heap.size #[.int .i64 cz, .int .i64 cs, .int .i64 cb, .int .i64 cq, .int .i64 cd, .int .i64 ch] hZ2 ?_ ?_ ?_ ?_ ?_ ?_); rotate_left; (· rfl); (· exact conf_info); (· rfl); (· simp [Value.oneCell']); rotate_left; (· rfl); simp only [Act.put]))
        have K3 := K2.put 0 rfl (cs' := #[.int .i64 cz, .int .i64 cs, .int .i64 cb, .int .i64 cq, .int .i64 cd, .int .i64 ch]) (B' := [(w2.heap.size, confRow cz cs cb cq cd ch), (w.heap.size + 1 + 1, cmdRow k b s), (w.heap.size + 1, confRow dz ds cb dq dd dh), (w.heap.size, confRow cz cs cb cq cd ch)]) rfl
        clear K2 hZ2 hC1 hC2
        generalize World.setRow _ w2.heap.size _ = w3 at *
        generalize w2.heap.size = T2 at *
        have hC3 : w3.cell? ⟨w.heap.size, 2, none⟩ = some (.int .i64 cb) := cell_of_row _ _ 2 _ _ _ (K3.get 3 rfl)
        have hT3 : w3.heap[T2]? = some (confRow cz cs cb cq cd ch) := K3.get 0 rfl
        go_upto_region 7 with (first
          | ((refine Put.wp_store_int 3 (.tmp 33) (.tmp 32) rfl T2 2 .i64 (cb + m) rfl rfl ⟨_, cell_of_row _ _ 2 _ _ _ hT3⟩ (cm_free hT3) Put.int_info1 ?_); simp only [Act.put]; rw [setCell_eq_setRow _ _ _ _ _ _ _ hT3]; simp only [List.setIfInBounds_toArray, List.set_cons_zero, List.set_cons_succ]))
        have K4 := K3.put 0 rfl (cs' := #[.int .i64 cz, .int .i64 cs, .int .i64 (cb + m), .int .i64 cq, .int .i64 cd, .int .i64 ch]) (B' := [(T2, confRow cz cs (cb + m) cq cd ch), (w.heap.size + 1 + 1, cmdRow k b s), (w.heap.size + 1, confRow dz ds cb dq dd dh), (w.heap.size, confRow cz cs cb cq cd ch)]) rfl
        clear K3 hC3 hT3
        generalize World.setRow w3 _ _ = w4 at *
        go_wp2_with (first
          | (go_at_call 5; ((with_reducible refine (HW.out _ K4.hb).mono ?_); rintro r9 w5 ⟨rfl, h5⟩; have K5 := K4.on h5; clear K4 h5; have hD5 : w5.heap[w.heap.size + 1]? = some (confRow dz ds cb dq dd dh) := K5.get 2 rfl; have hX5 : w5.heap[w.heap.size + 1 + 1]? = some (cmdRow k b s) := K5.get 1 rfl))
          | ((with_reducible refine load_lit_g 23 (.tmp 5) (w.heap.size + 1) ?_ ?_ hD5 Tryd.underlying23 ?_ ?_ ?_); (· rfl); (· rfl); (· rfl); (· exact conf_info); simp only [Act.put, List.setIfInBounds_toArray, List.set_cons_zero, List.set_cons_succ])
          | ((with_reducible refine load_lit_g 25 (.tmp 6) (w.heap.size + 1 + 1) ?_ ?_ hX5 Tryd.underlying25 ?_ ?_ ?_); (· rfl); (· rfl); (· rfl); (· exact cmd_info); simp only [Act.put, List.setIfInBounds_toArray, List.set_cons_zero, List.set_cons_succ])
          | (go_at_call 6; ((with_reducible refine (H2.out _ K5.hb).mono ?_); rintro r9 w6 ⟨rfl, h6⟩; have K6 := K5.on h6; clear K5 h6 hD5 hX5; have hT6 : w6.heap[T2]? = some (confRow cz cs (cb + m) cq cd ch) := K6.get 0 rfl; have hX6 : w6.heap[w.heap.size + 1 + 1]? = some (cmdRow k b s) := K6.get 1 rfl))
          | ((with_reducible refine load_lit_g 23 (.tmp 10) T2 ?_ ?_ hT6 Tryd.underlying23 ?_ ?_ ?_); (· rfl); (· rfl); (· rfl); (· exact conf_info); simp only [Act.put, List.setIfInBounds_toArray, List.set_cons_zero, List.set_cons_succ])
          | ((with_reducible refine load_lit_g 25 (.tmp 6) (w.heap.size + 1 + 1) ?_ ?_ hX6 Tryd.underlying25 ?_ ?_ ?_); (· rfl); (· rfl); (· rfl); (· exact cmd_info); simp only [Act.put, List.setIfInBounds_toArray, List.set_cons_zero, List.set_cons_succ])
          | (go_at_call 6; ((with_reducible refine (H3.out _ K6.hb).mono ?_); rintro r9 w7 ⟨rfl, h7⟩; have K7 := K6.on h7)))
        go_ret
        exact ⟨rfl, K6.hb⟩
    · have d2 : (1099511627776 : Int) < cb := by omega
      go_enter Tryd.func4, Tryd.ntmps4
      generalize hw0 : ((w.alloc (confRow cz cs cb cq cd ch)).alloc (confRow dz ds db dq dd dh)).alloc (cmdRow k b s) = w0 at *
      have hX0 := (cmd_cells (K.get 0 rfl)).2.2
      have hC0 : w0.cell? ⟨w.heap.size, 2, none⟩ = some (.int .i64 cb) := cell_of_row _ _ 2 _ _ _ (K.get 2 rfl)
      go_wp2_with (first
        | (go_at_call 5; ((with_reducible refine (HW.out _ K.hb).mono ?_); rintro r9 w1 ⟨rfl, h1⟩; have K1 := K.on h1)))
      go_ret
      exact ⟨rfl, K1.hb⟩
  · have d1 : (100 : Int) < (s.size : Int) := by omega
    go_enter Tryd.func4, Tryd.ntmps4
    generalize hw0 : ((w.alloc (confRow cz cs cb cq cd ch)).alloc (confRow dz ds db dq dd dh)).alloc (cmdRow k b s) = w0 at *
    have hX0 := (cmd_cells (K.get 0 rfl)).2.2
    have hC0 : w0.cell? ⟨w.heap.size, 2, none⟩ = some (.int .i64 cb) := cell_of_row _ _ 2 _ _ _ (K.get 2 rfl)
    go_wp2_with (first
      | (go_at_call 5; ((with_reducible refine (HW.out _ K.hb).mono ?_); rintro r9 w1 ⟨rfl, h1⟩; have K1 := K.on h1)))
    go_ret
    exact ⟨rfl, K1.hb⟩
end Go.Proofs.YtolpnlemaoabkaaDoor.Ents
