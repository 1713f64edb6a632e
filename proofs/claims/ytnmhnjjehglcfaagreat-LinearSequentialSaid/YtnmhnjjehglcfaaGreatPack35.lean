/- Texts that belong together, part 35. -/
import Derived.Test.YtnmhnjjehglcfaaGreatPack34
import Derived.Deep.DeepCutAuto

/- The walk of the law's sanity check of linearizations. -/
namespace Go.Proofs.YtnmhnjjehglcfaaGreat.Ents
open Go.RowKit Plan HisMath LinMath ModMath CmdMath Rws Env LayMath
theorem conv16g {W : World} {g : Nat} (h : W.heap[g]? = some (.cells (madeCells #[.int .u8 0] 16) 5)) : (convert 64 9 (.slice (some ⟨g, 0, none⟩) 16 16)).run Tryz.prog W = .ok (.string zeroC) W := by
  have h1 := run_convert_bytes_back (P := Tryz.prog) W 64 9 5 ⟨g, 0, none⟩ 16 (List.replicate 16 0) Tryz.underlying64 Tryz.underlying5 Tryz.underlying9 (fun j hj => by
    have hj' : j < 16 := by simpa using hj
    have e : (⟨g, 0, none⟩ : Addr).add j = ⟨g, j, none⟩ := by unfold Addr.add; split <;> simp_all
    rw [e, cell_of_row W g j _ _ _ h, List.getElem_replicate]
    simp [madeCells, hj', Nat.mod_one])
  rwa [List.length_replicate] at h1
theorem value5_ne {v : ByteArray} (hv : v = ⟨(valueL 5).toArray⟩) : v ≠ zeroC := by
  subst hv
  decide
set_option maxHeartbeats 8000000 in
set_option maxRecDepth 20000 in
theorem linAwake_any (H : LinearOk) (w : World) : Calls Tryz.prog 11 #[] w fun r w' => r = .returned (.bool true) ∧ Below w.heap.size w w' := by
  have H2 := Lib.hid (fun W => (show Calls Tryz.prog 29 #[.int .i64 5] W fun e w' => e = .returned (.string ⟨(valueL 5).toArray⟩) ∧ Below W.heap.size W w' from value_any 5 (by omega) W))
  obtain ⟨v, hv⟩ : ∃ v : ByteArray, v = ⟨(valueL 5).toArray⟩ := ⟨_, rfl⟩
  have hsz : v.size = 16 := by subst hv; simp [ByteArray.size, value_length]
  have hzz : zeroC.size = 16 := rfl
  have hne := value5_ne hv
  rw [← hv] at H2
  clear hv
  have HN := Lib.hid (aw_no hsz hzz hne)
  have HO := Lib.hid (fun o => @aw_one v zeroC hsz hzz hne o)
  have HY := Lib.hid (aw_yes hsz hzz)
  have HE := Lib.hid (aw_ends hsz hzz hne)
  have HS := Lib.hid (aw_single hsz hzz hsz hzz)
  generalize hz0 : zeroC = z at *
  go_enter Tryz.func11, Tryz.ntmps11
  go_upto_region 1 with fail
  have hb := Below.refl w.heap.size w
  go_cut [1, 2] (fun x y wx => x = .string v ∧ y = .string z ∧ Below w.heap.size w wx)
  case first =>
    refine Tree.start (fun _ => True) (.fork 0 (.take 3 (.only 1 (.only 2 (.take 4 .done)))) 1 (.fork 0 (.take 3 (.only 2 (.take 4 .done))) 2 (.only 0 (.take 3 (.take 4 .done))))) (by kernel_rfl) (by kernel_rfl) (by kernel_rfl) (by kernel_rfl) trivial ?_
    simp only [Tree.T.map, List.getElem?_toArray, List.getElem?_cons_zero, List.getElem?_cons_succ]
    replace hb := hb.drew
    generalize hw1 : w.drew = w1 at *
    have hs1 : w.heap.size ≤ w1.heap.size := hb.size
    clear hw1
    have hnew := heap_alloc_new w1 (.cells (madeCells #[.int .u8 0] 16) 5)
    have hbA := hb.alloc hs1 (.cells (madeCells #[.int .u8 0] 16) 5)
    refine Tree.fork (by rfl) (by rfl) ?_ ?_
    · refine Tree.wp_call 29 _ ?_ (H2.out w1) ?_
      · go_simp
      rintro e w2 ⟨rfl, h9⟩
      refine ⟨_, rfl, trivial, ?_⟩
      simp only [Act.put, List.setIfInBounds_toArray, List.set_cons_zero, List.set_cons_succ]
      refine Tree.take ?_ (by rfl) ?_ ?_; rotate_left; (· rintro w9 -; go_simp; all_goals (with_reducible rfl)); simp only [Act.put, List.setIfInBounds_toArray, List.set_cons_zero, List.set_cons_succ]
      refine Tree.only (by rfl) (Tree.wp_make (.slice (some ⟨w2.heap.size, 0, none⟩) 16 16) (w2.alloc (.cells (madeCells #[.int .u8 0] 16) 5)) (by have h8 := made16 w2; go_simp) ⟨trivial, ?_⟩)
      simp only [Act.put, List.setIfInBounds_toArray, List.set_cons_zero, List.set_cons_succ]
      refine Tree.only (by rfl) (Tree.wp_make (.string z) (w2.alloc (.cells (madeCells #[.int .u8 0] 16) 5)) (by have h8 := conv16 w2; rw [hz0] at h8; go_simp) ⟨trivial, ?_⟩)
      simp only [Act.put, List.setIfInBounds_toArray, List.set_cons_zero, List.set_cons_succ]
      refine Tree.take ?_ (by rfl) ?_ ?_; rotate_left; (· rintro w9 -; go_simp; all_goals (with_reducible rfl)); simp only [Act.put, List.setIfInBounds_toArray, List.set_cons_zero, List.set_cons_succ]
      refine Tree.ends ?_
      have hend := (hb.trans (h9.mono hs1)).alloc (Nat.le_trans hs1 h9.size) (.cells (madeCells #[.int .u8 0] 16) 5)
      go_wp2_with fail
      go_meet
      exact ⟨rfl, rfl, hend⟩
    · refine Tree.wp_make (.slice (some ⟨w1.heap.size, 0, none⟩) 16 16) (w1.alloc (.cells (madeCells #[.int .u8 0] 16) 5)) (by have h8 := made16 w1; go_simp) ⟨trivial, ?_⟩
      simp only [Act.put, List.setIfInBounds_toArray, List.set_cons_zero, List.set_cons_succ]
      generalize hw2 : w1.alloc _ = w2 at *
      clear hw2
      generalize w1.heap.size = G at *
      have hc2 := conv16g hnew
      rw [hz0] at hc2
      refine Tree.fork (by rfl) (by rfl) ?_ ?_
      · refine Tree.wp_call 29 _ ?_ (H2.out w2) ?_
        · go_simp
        rintro e w3 ⟨rfl, h9⟩
        have hc3 := conv16g ((h9.block _ (e_lt hnew)).trans hnew)
        rw [hz0] at hc3
        refine ⟨_, rfl, trivial, ?_⟩
        simp only [Act.put, List.setIfInBounds_toArray, List.set_cons_zero, List.set_cons_succ]
        refine Tree.take ?_ (by rfl) ?_ ?_; rotate_left; (· rintro w9 -; go_simp; all_goals (with_reducible rfl)); simp only [Act.put, List.setIfInBounds_toArray, List.set_cons_zero, List.set_cons_succ]
        refine Tree.only (by rfl) (Tree.wp_make (.string z) w3 (by go_simp) ⟨trivial, ?_⟩)
        simp only [Act.put, List.setIfInBounds_toArray, List.set_cons_zero, List.set_cons_succ]
        refine Tree.take ?_ (by rfl) ?_ ?_; rotate_left; (· rintro w9 -; go_simp; all_goals (with_reducible rfl)); simp only [Act.put, List.setIfInBounds_toArray, List.set_cons_zero, List.set_cons_succ]
        refine Tree.ends ?_
        have hend := hbA.trans (h9.mono hbA.size)
        go_wp2_with fail
        go_meet
        exact ⟨rfl, rfl, hend⟩
      · refine Tree.wp_make (.string z) w2 (by go_simp) ⟨trivial, ?_⟩
        simp only [Act.put, List.setIfInBounds_toArray, List.set_cons_zero, List.set_cons_succ]
        refine Tree.only (by rfl) (Tree.wp_call 29 _ ?_ (H2.out w2) ?_)
        · go_simp
        rintro e w3 ⟨rfl, h9⟩
        refine ⟨_, rfl, trivial, ?_⟩
        simp only [Act.put, List.setIfInBounds_toArray, List.set_cons_zero, List.set_cons_succ]
        refine Tree.take ?_ (by rfl) ?_ ?_; rotate_left; (· rintro w9 -; go_simp; all_goals (with_reducible rfl)); simp only [Act.put, List.setIfInBounds_toArray, List.set_cons_zero, List.set_cons_succ]
        refine Tree.take ?_ (by rfl) ?_ ?_; rotate_left; (· rintro w9 -; go_simp; all_goals (with_reducible rfl)); simp only [Act.put, List.setIfInBounds_toArray, List.set_cons_zero, List.set_cons_succ]
        refine Tree.ends ?_
        have hend := hbA.trans (h9.mono hbA.size)
        go_wp2_with fail
        go_meet
        exact ⟨rfl, rfl, hend⟩
  case rest =>
    obtain ⟨rfl, rfl, hb0⟩ := hcut
    have K := (((Env.start wc).al (.cells #[.bool false, .int .i64 0, .int .i64 1, .int .i64 2, .int .i64 0, .string v, .int .i64 0, .string ⟨#[]⟩] 55)).al (.cells #[.bool false, .int .i64 0, .int .i64 2, .int .i64 1, .int .i64 0, .string ⟨#[]⟩, .int .i64 0, .string ⟨#[]⟩] 55)).al (.cells #[.bool false, .int .i64 0, .int .i64 3, .int .i64 1, .int .i64 0, .string ⟨#[]⟩, .int .i64 0, .string ⟨#[]⟩] 55)
    simp only [World.size_alloc] at K
    go_upto_region 4 with fail
    generalize hw0 : ((wc.alloc _).alloc _).alloc _ = w4 at *
    clear hw0
    generalize hG : wc.heap.size = G at *
    replace hG := Lib.hid hG
    refine Plan.start (fun W => W.heap[G]? = some (.cells #[.bool false, .int .i64 0, .int .i64 1, .int .i64 2, .int .i64 0, .string v, .int .i64 0, .string ⟨#[]⟩] 55) ∧ W.heap[G + 1]? = some (.cells #[.bool false, .int .i64 0, .int .i64 2, .int .i64 1, .int .i64 0, .string ⟨#[]⟩, .int .i64 0, .string ⟨#[]⟩] 55) ∧ W.heap[G + 2]? = some (.cells #[.bool false, .int .i64 0, .int .i64 3, .int .i64 1, .int .i64 0, .string ⟨#[]⟩, .int .i64 0, .string ⟨#[]⟩] 55)) [(0, true), (1, true), (2, true), (3, true), (5, true), (6, true), (7, true), (9, true), (4, false), (8, false), (10, false), (11, false), (12, true)] (by kernel_rfl) (by kernel_rfl) (by kernel_rfl) (by kernel_rfl) ⟨K.drew.get 2 rfl, K.drew.get 1 rfl, K.drew.get 0 rfl⟩ ?_
    simp only [List.map_cons, List.map_nil, List.getElem?_toArray, List.getElem?_cons_zero, List.getElem?_cons_succ]
    replace K := K.drew
    refine Plan.take_load 55 (.tmp 3) (G) _ (by rfl) rfl (by rfl) (fun w9 h9 => h9.1) Tryz.underlying55 rfl ev_info ?_
    simp only [Act.put, List.setIfInBounds_toArray, List.set_cons_zero, List.set_cons_succ]
    refine Plan.take_load 55 (.tmp 4) (G + 1) _ (by rfl) rfl (by rfl) (fun w9 h9 => h9.2.1) Tryz.underlying55 rfl ev_info ?_
    simp only [Act.put, List.setIfInBounds_toArray, List.set_cons_zero, List.set_cons_succ]
    refine Plan.take_load 55 (.tmp 4) (G + 1) _ (by rfl) rfl (by rfl) (fun w9 h9 => h9.2.1) Tryz.underlying55 rfl ev_info ?_
    simp only [Act.put, List.setIfInBounds_toArray, List.set_cons_zero, List.set_cons_succ]
    refine Plan.take ?_ (by rfl) ?_ ?_; rotate_left; (· rintro w9 ⟨u0, u1, u2⟩; go_simp; all_goals (with_reducible rfl)); simp only [Act.put, List.setIfInBounds_toArray, List.set_cons_zero, List.set_cons_succ]
    refine Plan.take_load 55 (.tmp 5) (G + 2) _ (by rfl) rfl (by rfl) (fun w9 h9 => h9.2.2) Tryz.underlying55 rfl ev_info ?_
    simp only [Act.put, List.setIfInBounds_toArray, List.set_cons_zero, List.set_cons_succ]
    refine Plan.take_load 55 (.tmp 5) (G + 2) _ (by rfl) rfl (by rfl) (fun w9 h9 => h9.2.2) Tryz.underlying55 rfl ev_info ?_
    simp only [Act.put, List.setIfInBounds_toArray, List.set_cons_zero, List.set_cons_succ]
    refine Plan.take ?_ (by rfl) ?_ ?_; rotate_left; (· rintro w9 ⟨u0, u1, u2⟩; go_simp; all_goals (with_reducible rfl)); simp only [Act.put, List.setIfInBounds_toArray, List.set_cons_zero, List.set_cons_succ]
    refine Plan.take_load 55 (.tmp 3) (G) _ (by rfl) rfl (by rfl) (fun w9 h9 => h9.1) Tryz.underlying55 rfl ev_info ?_
    simp only [Act.put, List.setIfInBounds_toArray, List.set_cons_zero, List.set_cons_succ]
    refine Plan.call (by rfl) 35 _ ?_ (answered_any (awR false 2 ⟨#[]⟩) v _) ?_
    · go_simp
      all_goals simp [awR]
    rintro r9 w9 ⟨rfl, h9⟩
    replace K := K.on h9
    clear h9
    refine ⟨_, rfl, ⟨(K.get 2 rfl), (K.get 1 rfl), (K.get 0 rfl)⟩, ?_⟩
    simp only [Act.put, List.setIfInBounds_toArray, List.set_cons_zero, List.set_cons_succ]
    refine Plan.call (by rfl) 35 _ ?_ (answered_any (awR false 3 ⟨#[]⟩) z _) ?_
    · go_simp
      all_goals simp [awR]
    rintro r9 w9 ⟨rfl, h9⟩
    replace K := K.on h9
    clear h9
    refine ⟨_, rfl, ⟨(K.get 2 rfl), (K.get 1 rfl), (K.get 0 rfl)⟩, ?_⟩
    simp only [Act.put, List.setIfInBounds_toArray, List.set_cons_zero, List.set_cons_succ]
    refine Plan.call (by rfl) 35 _ ?_ (answered_any (awW false v) ⟨#[]⟩ _) ?_
    · go_simp
      all_goals simp [awW]
    rintro r9 w9 ⟨rfl, h9⟩
    replace K := K.on h9
    clear h9
    refine ⟨_, rfl, ⟨(K.get 2 rfl), (K.get 1 rfl), (K.get 0 rfl)⟩, ?_⟩
    simp only [Act.put, List.setIfInBounds_toArray, List.set_cons_zero, List.set_cons_succ]
    have K9 := K.al (.cells #[.bool false, .int .i64 0, .int .i64 1, .int .i64 2, .int .i64 0, .string v, .int .i64 0, .string ⟨#[]⟩, .bool false, .int .i64 0, .int .i64 2, .int .i64 1, .int .i64 0, .string ⟨#[]⟩, .int .i64 0, .string ⟨#[]⟩, .bool true, .int .i64 0, .int .i64 2, .int .i64 1, .int .i64 0, .string ⟨#[]⟩, .int .i64 0, .string v, .bool false, .int .i64 0, .int .i64 3, .int .i64 1, .int .i64 0, .string ⟨#[]⟩, .int .i64 0, .string ⟨#[]⟩, .bool true, .int .i64 0, .int .i64 3, .int .i64 1, .int .i64 0, .string ⟨#[]⟩, .int .i64 0, .string z, .bool true, .int .i64 0, .int .i64 1, .int .i64 2, .int .i64 0, .string v, .int .i64 0, .string ⟨#[]⟩] 55)
    refine Plan.make (by rfl) (.slice (some ⟨w9.heap.size, 0, none⟩) 6 6) (w9.alloc (.cells #[.bool false, .int .i64 0, .int .i64 1, .int .i64 2, .int .i64 0, .string v, .int .i64 0, .string ⟨#[]⟩, .bool false, .int .i64 0, .int .i64 2, .int .i64 1, .int .i64 0, .string ⟨#[]⟩, .int .i64 0, .string ⟨#[]⟩, .bool true, .int .i64 0, .int .i64 2, .int .i64 1, .int .i64 0, .string ⟨#[]⟩, .int .i64 0, .string v, .bool false, .int .i64 0, .int .i64 3, .int .i64 1, .int .i64 0, .string ⟨#[]⟩, .int .i64 0, .string ⟨#[]⟩, .bool true, .int .i64 0, .int .i64 3, .int .i64 1, .int .i64 0, .string ⟨#[]⟩, .int .i64 0, .string z, .bool true, .int .i64 0, .int .i64 1, .int .i64 2, .int .i64 0, .string v, .int .i64 0, .string ⟨#[]⟩] 55)) ?_ ⟨K9.get 3 rfl, K9.get 2 rfl, K9.get 1 rfl⟩ ?_
    · go_simp
      all_goals simp [awR, awW]
    simp only [Act.put, List.setIfInBounds_toArray, List.set_cons_zero, List.set_cons_succ]
    clear K
    have K := K9
    clear K9
    generalize w9.heap.size = GL at *
    generalize w9.alloc _ = w7 at *
    refine Plan.take ?_ (by rfl) ?_ ?_; rotate_left; (· rintro w9 ⟨u0, u1, u2⟩; go_simp; all_goals (with_reducible rfl)); simp only [Act.put, List.setIfInBounds_toArray, List.set_cons_zero, List.set_cons_succ]
    refine Plan.ends ?_
    go_upto_region 5 with fail
    refine Plan.start (fun W => W.heap[G]? = some (.cells #[.bool false, .int .i64 0, .int .i64 1, .int .i64 2, .int .i64 0, .string v, .int .i64 0, .string ⟨#[]⟩] 55) ∧ W.heap[G + 1]? = some (.cells #[.bool false, .int .i64 0, .int .i64 2, .int .i64 1, .int .i64 0, .string ⟨#[]⟩, .int .i64 0, .string ⟨#[]⟩] 55) ∧ W.heap[G + 2]? = some (.cells #[.bool false, .int .i64 0, .int .i64 3, .int .i64 1, .int .i64 0, .string ⟨#[]⟩, .int .i64 0, .string ⟨#[]⟩] 55)) [(0, true), (1, true), (2, true), (3, true), (5, true), (6, true), (7, true), (9, true), (4, false), (8, false), (10, false), (11, false), (12, true)] (by kernel_rfl) (by kernel_rfl) (by kernel_rfl) (by kernel_rfl) ⟨K.drew.get 3 rfl, K.drew.get 2 rfl, K.drew.get 1 rfl⟩ ?_
    simp only [List.map_cons, List.map_nil, List.getElem?_toArray, List.getElem?_cons_zero, List.getElem?_cons_succ]
    replace K := K.drew
    refine Plan.take_load 55 (.tmp 3) (G) _ (by rfl) rfl (by rfl) (fun w9 h9 => h9.1) Tryz.underlying55 rfl ev_info ?_
    simp only [Act.put, List.setIfInBounds_toArray, List.set_cons_zero, List.set_cons_succ]
    refine Plan.take_load 55 (.tmp 4) (G + 1) _ (by rfl) rfl (by rfl) (fun w9 h9 => h9.2.1) Tryz.underlying55 rfl ev_info ?_
    simp only [Act.put, List.setIfInBounds_toArray, List.set_cons_zero, List.set_cons_succ]
    refine Plan.take_load 55 (.tmp 4) (G + 1) _ (by rfl) rfl (by rfl) (fun w9 h9 => h9.2.1) Tryz.underlying55 rfl ev_info ?_
    simp only [Act.put, List.setIfInBounds_toArray, List.set_cons_zero, List.set_cons_succ]
    refine Plan.take ?_ (by rfl) ?_ ?_; rotate_left; (· rintro w9 ⟨u0, u1, u2⟩; go_simp; all_goals (with_reducible rfl)); simp only [Act.put, List.setIfInBounds_toArray, List.set_cons_zero, List.set_cons_succ]
    refine Plan.take_load 55 (.tmp 5) (G + 2) _ (by rfl) rfl (by rfl) (fun w9 h9 => h9.2.2) Tryz.underlying55 rfl ev_info ?_
    simp only [Act.put, List.setIfInBounds_toArray, List.set_cons_zero, List.set_cons_succ]
    refine Plan.take_load 55 (.tmp 5) (G + 2) _ (by rfl) rfl (by rfl) (fun w9 h9 => h9.2.2) Tryz.underlying55 rfl ev_info ?_
    simp only [Act.put, List.setIfInBounds_toArray, List.set_cons_zero, List.set_cons_succ]
    refine Plan.take ?_ (by rfl) ?_ ?_; rotate_left; (· rintro w9 ⟨u0, u1, u2⟩; go_simp; all_goals (with_reducible rfl)); simp only [Act.put, List.setIfInBounds_toArray, List.set_cons_zero, List.set_cons_succ]
    refine Plan.take_load 55 (.tmp 3) (G) _ (by rfl) rfl (by rfl) (fun w9 h9 => h9.1) Tryz.underlying55 rfl ev_info ?_
    simp only [Act.put, List.setIfInBounds_toArray, List.set_cons_zero, List.set_cons_succ]
    refine Plan.call (by rfl) 35 _ ?_ (answered_any (awR false 2 ⟨#[]⟩) z _) ?_
    · go_simp
      all_goals simp [awR]
    rintro r9 w9 ⟨rfl, h9⟩
    replace K := K.on h9
    clear h9
    refine ⟨_, rfl, ⟨(K.get 3 rfl), (K.get 2 rfl), (K.get 1 rfl)⟩, ?_⟩
    simp only [Act.put, List.setIfInBounds_toArray, List.set_cons_zero, List.set_cons_succ]
    refine Plan.call (by rfl) 35 _ ?_ (answered_any (awR false 3 ⟨#[]⟩) v _) ?_
    · go_simp
      all_goals simp [awR]
    rintro r9 w9 ⟨rfl, h9⟩
    replace K := K.on h9
    clear h9
    refine ⟨_, rfl, ⟨(K.get 3 rfl), (K.get 2 rfl), (K.get 1 rfl)⟩, ?_⟩
    simp only [Act.put, List.setIfInBounds_toArray, List.set_cons_zero, List.set_cons_succ]
    refine Plan.call (by rfl) 35 _ ?_ (answered_any (awW false v) ⟨#[]⟩ _) ?_
    · go_simp
      all_goals simp [awW]
    rintro r9 w9 ⟨rfl, h9⟩
    replace K := K.on h9
    clear h9
    refine ⟨_, rfl, ⟨(K.get 3 rfl), (K.get 2 rfl), (K.get 1 rfl)⟩, ?_⟩
    simp only [Act.put, List.setIfInBounds_toArray, List.set_cons_zero, List.set_cons_succ]
    have K9 := K.al (.cells #[.bool false, .int .i64 0, .int .i64 1, .int .i64 2, .int .i64 0, .string v, .int .i64 0, .string ⟨#[]⟩, .bool false, .int .i64 0, .int .i64 2, .int .i64 1, .int .i64 0, .string ⟨#[]⟩, .int .i64 0, .string ⟨#[]⟩, .bool true, .int .i64 0, .int .i64 2, .int .i64 1, .int .i64 0, .string ⟨#[]⟩, .int .i64 0, .string z, .bool false, .int .i64 0, .int .i64 3, .int .i64 1, .int .i64 0, .string ⟨#[]⟩, .int .i64 0, .string ⟨#[]⟩, .bool true, .int .i64 0, .int .i64 3, .int .i64 1, .int .i64 0, .string ⟨#[]⟩, .int .i64 0, .string v, .bool true, .int .i64 0, .int .i64 1, .int .i64 2, .int .i64 0, .string v, .int .i64 0, .string ⟨#[]⟩] 55)
    refine Plan.make (by rfl) (.slice (some ⟨w9.heap.size, 0, none⟩) 6 6) (w9.alloc (.cells #[.bool false, .int .i64 0, .int .i64 1, .int .i64 2, .int .i64 0, .string v, .int .i64 0, .string ⟨#[]⟩, .bool false, .int .i64 0, .int .i64 2, .int .i64 1, .int .i64 0, .string ⟨#[]⟩, .int .i64 0, .string ⟨#[]⟩, .bool true, .int .i64 0, .int .i64 2, .int .i64 1, .int .i64 0, .string ⟨#[]⟩, .int .i64 0, .string z, .bool false, .int .i64 0, .int .i64 3, .int .i64 1, .int .i64 0, .string ⟨#[]⟩, .int .i64 0, .string ⟨#[]⟩, .bool true, .int .i64 0, .int .i64 3, .int .i64 1, .int .i64 0, .string ⟨#[]⟩, .int .i64 0, .string v, .bool true, .int .i64 0, .int .i64 1, .int .i64 2, .int .i64 0, .string v, .int .i64 0, .string ⟨#[]⟩] 55)) ?_ ⟨K9.get 4 rfl, K9.get 3 rfl, K9.get 2 rfl⟩ ?_
    · go_simp
      all_goals simp [awR, awW]
    simp only [Act.put, List.setIfInBounds_toArray, List.set_cons_zero, List.set_cons_succ]
    clear K
    have K := K9
    clear K9
    generalize w9.heap.size = GM at *
    generalize w9.alloc _ = w7 at *
    refine Plan.take ?_ (by rfl) ?_ ?_; rotate_left; (· rintro w9 ⟨u0, u1, u2⟩; go_simp; all_goals (with_reducible rfl)); simp only [Act.put, List.setIfInBounds_toArray, List.set_cons_zero, List.set_cons_succ]
    refine Plan.ends ?_
    have lL : VList w7 (fun _ => True) (some ⟨GL, 0, none⟩) 6 6 (awH v v z) := lit_list (R := VR) (L := awH v v z) (K.get 1 rfl) trivial (show 6 ≤ maxLen by unfold maxLen; decide)
    have lM : VList w7 (fun _ => True) (some ⟨GM, 0, none⟩) 6 6 (awH v z v) := lit_list (R := VR) (L := awH v z v) (K.get 0 rfl) trivial (show 6 ≤ maxLen by unfold maxLen; decide)
    have hb7 := K.hb
    have hT := Lib.hid (show Below w.heap.size w w7 from hb0.trans (hb7.mono (by have h8 := hb0.size; omega)))
    have HB1 := Lib.hid (fun W (h : Below w7.heap.size w7 W) => H.block _ z (awH v v z) _ 6 6 W (lL.same h) (by decide))
    have HB2 := Lib.hid (fun W (h : Below w7.heap.size w7 W) => H.block _ z (awH v z v) _ 6 6 W (lM.same h) (by decide))
    have HV := Lib.hid (fun W (h : Below w7.heap.size w7 W) => H.values _ z (awH v z v) _ 6 6 W (lM.same h) (by decide))
    have HC := Lib.hid (fun W (h : Below w7.heap.size w7 W) F I x2 e q (hs : SList W F x2 1 1 [z]) (ho : TList IR W I e 3 q [2, 1, 3]) => H.check F _ I [z] (awH v z v) [2, 1, 3] x2 _ e 1 1 6 6 3 q W hs (lM.same h) ho (by decide) (by decide) (by decide))
    rw [HY.out] at HC
    unfold BlkPost at HB1 HB2
    unfold ValPost at HV
    clear K
    have hW := Below.refl w7.heap.size w7
    clear lL lM
    go_upto_region 9 with (first
      | (go_at_call 20; ((with_reducible refine (HB1.out _ hW).mono ?_); rintro r9 w1 ⟨la1, ln1, lc1, l1, b1, rfl, -, h9, q1, -, -⟩; obtain rfl : b1 = false := (by cases b1 <;> first | rfl | exact absurd (q1.1 rfl).2 HN.out); replace hW := hW.trans (h9.mono hW.size); clear h9 q1))
      | (go_at_call 20; ((with_reducible refine (HB2.out _ hW).mono ?_); rintro r9 w2 ⟨la, ln, lc, l, b2, rfl, lo, h9, q1, q2, -⟩; obtain rfl : b2 = true := q1.2 ⟨HS.out, _, HY.out⟩; obtain rfl := HO.out l (q2 rfl); obtain rfl : 3 = ln := lo.length; replace hW := hW.trans (h9.mono hW.size); clear h9 q1 q2))
      | (go_at_call 22; ((with_reducible refine (HV.out _ hW).mono ?_); rintro r9 w3 ⟨ua, un, uc, E, rfl, lu, h9, qa, qe⟩; replace lo := lo.same h9; replace hW := hW.trans (h9.mono hW.size); clear h9)))
    obtain rfl : E = [v] := asc_only qa (List.pairwise_singleton _ _) (fun u => by rw [qe u, HE.out u, List.mem_singleton])
    obtain rfl : 1 = un := lu.length
    clear qa qe
    obtain ⟨x, y0, hx, hy0, h0⟩ := ir_at lo 0 (by decide)
    obtain ⟨x', y1, hx1, hy1, h1⟩ := ir_at lo 1 (by decide)
    obtain ⟨x'', y2, hx2, hy2, h2⟩ := ir_at lo 2 (by decide)
    subst hx
    obtain rfl := Option.some.inj hx1
    obtain rfl := Option.some.inj hx2
    obtain rfl : (2 : Int) = y0 := Option.some.inj hy0
    obtain rfl : (1 : Int) = y1 := Option.some.inj hy1
    obtain rfl : (3 : Int) = y2 := Option.some.inj hy2
    obtain ⟨xu, s0, hxu, hs0, hu0⟩ := str_at lu 0 (by decide)
    subst hxu
    obtain rfl : v = s0 := Option.some.inj hs0
    rw [show x.add 0 = x from by simp [Addr.add]] at h0
    rw [show xu.add 0 = xu from by simp [Addr.add]] at hu0
    simp only [lit_off _ 1 (by decide), lit_off _ 2 (by decide)] at h1 h2
    have KZ := (Env.start w3).al (.cells #[.string z] 9)
    have lZ : SList _ (fun b => w3.heap.size ≤ b) (some ⟨_, 0, none⟩) 1 1 [z] := lit_list (R := SR) (L := [z]) (KZ.get 0 rfl) (KZ.lo 0 rfl) (show 1 ≤ maxLen by unfold maxLen; decide)
    have hWZ := hW.alloc hW.size (.cells #[.string z] 9)
    have loZ := lo.same KZ.hb
    have hlc : 3 ≤ lc := lo.cap.1
    have huc : 1 ≤ uc := lu.cap.1
    clear hx1 hx2 hy0 hy1 hy2 hs0
    have hcc := Lib.hid (HC.out _ hWZ _ _ _ _ _ lZ loZ)
    have hfin := Lib.hid (fun W (h : Below (w3.alloc (.cells #[.string z] 9)).heap.size (w3.alloc (.cells #[.string z] 9)) W) => (show Below w.heap.size w W from hT.out.trans ((hWZ.trans (h.mono hWZ.size)).mono hT.out.size)))
    clear KZ lZ loZ lo lu hW hWZ
    go_wp2_with (first
      | (go_at_call 12; ((with_reducible refine (hcc.out).mono ?_); rintro r9 w5 ⟨rfl, h9⟩)))
    go_ret
    exact ⟨rfl, hfin.out _ h9⟩
end Go.Proofs.YtnmhnjjehglcfaaGreat.Ents

/- The walk of the law LinearMade. -/
namespace Go.Proofs.YtnmhnjjehglcfaaGreat.LinMath
open HisMath ModMath
theorem lin_len {B : List ByteArray} {L : List Ev} {o : List Int} (h : linE B L o = 0) : o.length ≤ (opsE L L.length).length := by
  obtain ⟨hs, h2⟩ := lin_parts0 h
  obtain ⟨xs, rfl, hx⟩ := (lin_iff B (right_opn (sizes_parts hs).1) o).1 h2
  have e : (opsE L L.length).length = ((opsE L L.length).map fun x : Ev => x.serial).length := (List.length_map _).symm
  rw [e]
  refine nodup_le ?_ fun s hs => ?_
  · exact List.Pairwise.map _ (fun _ _ h => h) hx.nd
  · obtain ⟨x, hx1, rfl⟩ := List.mem_map.1 hs
    exact List.mem_map.2 ⟨x, hx.mem x hx1, rfl⟩
end Go.Proofs.YtnmhnjjehglcfaaGreat.LinMath
namespace Go.Proofs.YtnmhnjjehglcfaaGreat.Ents
open Go.RowKit Plan HisMath LinMath ModMath Rws Env LayMath
theorem int_info1 : (Tryz.prog.info? 3).map (·.size) = some 1 := by kernel_rfl
set_option maxHeartbeats 8000000 in
set_option maxRecDepth 20000 in
theorem linMadeLaw_any (H : LinearOk) (HEV : EventsOk) (wrong : Bool) (at' ot : Int) (a : Option Addr) (n c : Nat) (Z : List Int) (w : World) (hz : IsRow .i64 w a n c Z) :
    Calls Tryz.prog 4 #[.slice a n c, .bool wrong, .int .i64 at', .int .i64 ot] w fun r w' => r = .returned (.bool true) ∧ Below w.heap.size w w' := by
  have HA := Lib.hid (fun W => linAwake_any H W)
  have HL := Lib.hid (fun W => light_any a n c W)
  by_cases hn : (n : Int) ≤ 300
  · rw [decide_eq_true hn] at HL
    have HE := Lib.hid (show Calls Tryz.prog 15 #[.slice a n c, .int .i64 2, .int .i64 10, .bool wrong] w (LMadePost 2 20 wrong w) from HEV.made 2 10 wrong a n c Z w hz (by omega) (by decide) (by decide) (by decide))
    unfold LMadePost at HE
    have HNZ := Lib.hid (fun W => refBNew_any 2 W)
    unfold SPost at HNZ
    have HF := Lib.hid (fun W F G X x q k a m d (hs : SList W G x k q (newB 2)) (h : VList W F a m d X) (hk : k ≤ 100000) (hm : m ≤ 100000) => H.find G F (newB 2) X x a k q m d W hs h (by omega) hm)
    unfold FndPost at HF
    have HK := Lib.hid (fun W F G I X o x q k a m d e p r (hs : SList W G x k q (newB 2)) (h : VList W F a m d X) (ho : TList IR W I e p r o) (hk : k ≤ 100000) (hm : m ≤ 100000) => refLinCheck_any G F I (newB 2) X o x a e k q m d p r W hs h ho (by omega) hm)
    have HC := Lib.hid (fun W F G I X o x q k a m d e p r (hs : SList W G x k q (newB 2)) (h : VList W F a m d X) (ho : TList IR W I e p r o) (hk : k ≤ 100000) (hm : m ≤ 100000) (hp : p ≤ 100000) => H.check G F I (newB 2) X o x a e k q m d p r W hs h ho (by omega) hm hp)
    have HNL := Lib.hid (show (newB 2).length = 2 from rfl)
    generalize newB 2 = B at *
    have hW := Below.refl w.heap.size w
    clear hz
    go_enter Tryz.func4, Tryz.ntmps4
    go_upto_region 6 with (first
      | (go_at_call 14; ((with_reducible refine (HL.out _).mono ?_); rintro r9 w9 ⟨rfl, rfl⟩))
      | (go_at_call 15; ((with_reducible refine (HE.out).mono ?_); rintro r9 w1 ⟨xa, m, d, X, rfl, lx, h9, hmd⟩; have hml := hmd.len; have hxl := lx.length; have hm : m ≤ 100000 := (by omega); replace hW := hW.trans (h9.mono hW.size); clear h9))
      | (go_at_call 16; ((with_reducible refine (HNZ.out _).mono ?_); rintro r9 w2 ⟨ba, bn, bc, rfl, lb, h9⟩; have hbl := lb.length; have hbn : bn ≤ 100000 := (by have := HNL.out; omega); replace lx := lx.same h9; replace hW := hW.trans (h9.mono hW.size); clear h9))
      | (go_at_call 17; ((with_reducible refine (HF.out _ _ _ _ _ _ _ _ _ _ lb lx hbn hm).mono ?_); rintro r9 w3 ⟨oa, on, oc, o, ok, rfl, lo, h9, -, p2, p3⟩; replace lx := lx.same h9; replace lb := lb.same h9; replace hW := hW.trans (h9.mono hW.size); clear h9)))
    have hol := lo.length
    clear HE HNZ HF hmd hbl HL
    cases ok with
    | false =>
      obtain rfl := p3 rfl
      obtain rfl : 0 = on := hol
      clear p2 p3
      have hop : 0 ≤ 100000 := by decide
      clear hml hxl
      generalize ([] : List Int) = o at *
      go_wp2_with (first
        | (go_at_call 12; ((with_reducible refine (HC.out _ _ _ _ _ _ _ _ _ _ _ _ _ _ _ lb lx lo hbn hm hop).mono ?_); rintro r9 w20 ⟨rfl, h9⟩; replace lx := lx.same h9; replace lb := lb.same h9; replace lo := lo.same h9; replace hW := hW.trans (h9.mono hW.size); clear h9))
        | (go_at_call 13; ((with_reducible refine (HK.out _ _ _ _ _ _ _ _ _ _ _ _ _ _ _ lb lx lo hbn hm).mono ?_); rintro r9 w21 ⟨rfl, h9⟩; clear lb lx lo; replace hW := hW.trans (h9.mono hW.size); clear h9))
        | (go_at_call 11; ((with_reducible refine (HA.out _).mono ?_); rintro r9 w9 ⟨rfl, h9⟩; replace hW := hW.trans (h9.mono hW.size); clear h9)))
      go_ret
      exact ⟨rfl, hW⟩
    | true =>
      have h0 := p2 rfl
      have hop : on ≤ 100000 := by have := lin_len h0; omega
      clear p2 p3 hml hxl
      go_upto_region 8 with (first
        | (go_at_call 13; ((with_reducible refine (HK.out _ _ _ _ _ _ _ _ _ _ _ _ _ _ _ lb lx lo hbn hm).mono ?_); rw [h0]; rintro r9 w6 ⟨rfl, h9⟩; replace lx := lx.same h9; replace lb := lb.same h9; replace lo := lo.same h9; replace hW := hW.trans (h9.mono hW.size); clear h9)))
      clear h0
      by_cases hon : on = 0
      · subst hon
        go_wp2_with (first
          | (go_at_call 12; ((with_reducible refine (HC.out _ _ _ _ _ _ _ _ _ _ _ _ _ _ _ lb lx lo hbn hm hop).mono ?_); rintro r9 w20 ⟨rfl, h9⟩; replace lx := lx.same h9; replace lb := lb.same h9; replace lo := lo.same h9; replace hW := hW.trans (h9.mono hW.size); clear h9))
          | (go_at_call 13; ((with_reducible refine (HK.out _ _ _ _ _ _ _ _ _ _ _ _ _ _ _ lb lx lo hbn hm).mono ?_); rintro r9 w21 ⟨rfl, h9⟩; clear lb lx lo; replace hW := hW.trans (h9.mono hW.size); clear h9))
          | (go_at_call 11; ((with_reducible refine (HA.out _).mono ?_); rintro r9 w9 ⟨rfl, h9⟩; replace hW := hW.trans (h9.mono hW.size); clear h9)))
        go_ret
        exact ⟨rfl, hW⟩
      · have hon1 : 0 < on := by omega
        have hoI : (0 : Int) < (on : Int) := by omega
        have hem := fun z => Int.emod_nonneg z (show (on : Int) ≠ 0 by omega)
        have hel := fun z => Int.emod_lt_of_pos z hoI
        obtain ⟨ii, hii⟩ : ∃ kk : Nat, at' % (on : Int) = (kk : Int) := ⟨(at' % (on : Int)).toNat, by have := hem at'; omega⟩
        obtain ⟨kk, hkk⟩ : ∃ kk : Nat, ot % (on : Int) = (kk : Int) := ⟨(ot % (on : Int)).toNat, by have := hem ot; omega⟩
        have hi1 : ii < on := by have := hel at'; omega
        have hk1 : kk < on := by have := hel ot; omega
        have HM1 := Lib.hid (fun W => mod_any at' (on : Int) (by omega) (by omega) W)
        have HM2 := Lib.hid (fun W => mod_any ot (on : Int) (by omega) (by omega) W)
        rw [hii] at HM1
        rw [hkk] at HM2
        have hiI : (ii : Int) < (on : Int) := by omega
        have hkI : (kk : Int) < (on : Int) := by omega
        clear hii hkk hem hel hon
        have KA : Env w6 (w6.alloc (.cells #[] 3)) (Env.lst IR (Env.slv w6.heap.size 0 0) 0 [] :: _) := (Env.start w6).empty IR
        have l1 := (lo.rest0).keep ((Env.start w6).keep_empty IR)
        clear lo
        go_upto_region 11 with (first
          | (go_at_call 18; ((with_reducible refine (HM1.out _).mono ?_); rintro r9 w9 ⟨rfl, rfl⟩))
          | (go_at_call 18; ((with_reducible refine (HM2.out _).mono ?_); rintro r9 w9 ⟨rfl, rfl⟩))
          | (refine KA.apps_listW irOk rfl (.tmp 48) (.tmp 49) rfl 0 rfl rfl rfl l1 (by omega) (by show (0 + on) * 8 ≤ _; omega) ?_; intro gA cA w7 K9 _; simp only [List.set, Nat.zero_add, List.nil_append] at K9; simp only [Nat.zero_add, Act.put, List.setIfInBounds_toArray, List.set_cons_zero, List.set_cons_succ]; clear KA l1))
        have hcA : on ≤ cA := (K9.list irOk 0 rfl).cap.1
        have hic : ii ≤ cA := by omega
        have hkc : kk ≤ cA := by omega
        obtain ⟨yi, hyi⟩ : ∃ y, o[ii]? = some y := ⟨_, List.getElem?_eq_getElem (by omega)⟩
        obtain ⟨yk, hyk⟩ : ∃ y, o[kk]? = some y := ⟨_, List.getElem?_eq_getElem (by omega)⟩
        replace K9 := K9.drew
        have hci := (K9.own1 irOk rfl 0 rfl hyi (u := .int .i64 yi) rfl).1
        have hck := (K9.own1 irOk rfl 0 rfl hyk (u := .int .i64 yk) rfl).1
        refine Tree.start (fun _ => True) (.take 0 (.take 1 (.take 2 (.take 3 (.take 4 (.take 5 (.take 6 (.take 8 (.take 9 (.take 10 (.fork 7 (.only 11 (.take 12 (.only 13 (.take 14 (.only 15 .done))))) 11 (.only 7 (.take 12 (.only 13 (.take 14 (.only 15 .done)))))))))))))))) (by kernel_rfl) (by kernel_rfl) (by kernel_rfl) (by kernel_rfl) trivial ?_
        simp only [Tree.T.map, List.getElem?_toArray, List.getElem?_cons_zero, List.getElem?_cons_succ]
        generalize w7.drew = w8 at *
        repeat (first | (refine Tree.take ?_ (by rfl) ?_ ?_; rotate_left; (· rintro w9 -; go_simp; (try rw [if_neg (by omega)]); all_goals (with_reducible rfl)); simp only [Act.put, List.setIfInBounds_toArray, List.set_cons_zero, List.set_cons_succ]))
        refine Tree.fork (by rfl) (by rfl) ?_ ?_
        · refine Tree.wp_make (.int .i64 yk) w8 (by go_simp; all_goals (with_reducible rfl)) ⟨trivial, ?_⟩
          simp only [Act.put, List.setIfInBounds_toArray, List.set_cons_zero, List.set_cons_succ]
          refine Tree.only (by rfl) (Tree.wp_make (.int .i64 yi) w8 (by go_simp; all_goals (with_reducible rfl)) ⟨trivial, ?_⟩)
          simp only [Act.put, List.setIfInBounds_toArray, List.set_cons_zero, List.set_cons_succ]
          repeat (first | (refine Tree.take ?_ (by rfl) ?_ ?_; rotate_left; (· rintro w9 -; go_simp; (try rw [if_neg (by omega)]); all_goals (with_reducible rfl)); simp only [Act.put, List.setIfInBounds_toArray, List.set_cons_zero, List.set_cons_succ]))
          refine Tree.only (by rfl) (K9.store_own irOk rfl 0 rfl 3 (.tmp 63) (.tmp 58) rfl hi1 yk (u := .int .i64 yk) rfl (by rfl) (by rfl) int_info1 rfl ?_)
          intro w10 K10 _
          simp only [List.set] at K10
          refine ⟨trivial, ?_⟩
          simp only [Act.put]
          repeat (first | (refine Tree.take ?_ (by rfl) ?_ ?_; rotate_left; (· rintro w9 -; go_simp; (try rw [if_neg (by omega)]); all_goals (with_reducible rfl)); simp only [Act.put, List.setIfInBounds_toArray, List.set_cons_zero, List.set_cons_succ]))
          refine Tree.only (by rfl) (K10.store_own irOk rfl 0 rfl 3 (.tmp 64) (.tmp 62) rfl hk1 yi (u := .int .i64 yi) rfl (by rfl) (by rfl) int_info1 rfl ?_)
          intro w11 K11 _
          simp only [List.set] at K11
          refine ⟨trivial, ?_⟩
          simp only [Act.put]
          refine Tree.ends ?_
          have lo : TList IR w11 (fun b => w6.heap.size ≤ b) (some ⟨gA, 0, none⟩) on cA _ := K11.list irOk 0 rfl
          replace lx := lx.same K11.hb
          replace lb := lb.same K11.hb
          replace hW := hW.trans (K11.hb.mono hW.size)
          go_wp2_with (first
            | (go_at_call 12; ((with_reducible refine (HC.out _ _ _ _ _ _ _ _ _ _ _ _ _ _ _ lb lx lo hbn hm hop).mono ?_); rintro r9 w20 ⟨rfl, h9⟩; replace lx := lx.same h9; replace lb := lb.same h9; replace lo := lo.same h9; replace hW := hW.trans (h9.mono hW.size); clear h9))
            | (go_at_call 13; ((with_reducible refine (HK.out _ _ _ _ _ _ _ _ _ _ _ _ _ _ _ lb lx lo hbn hm).mono ?_); rintro r9 w21 ⟨rfl, h9⟩; clear lb lx lo; replace hW := hW.trans (h9.mono hW.size); clear h9))
            | (go_at_call 11; ((with_reducible refine (HA.out _).mono ?_); rintro r9 w9 ⟨rfl, h9⟩; replace hW := hW.trans (h9.mono hW.size); clear h9)))
          go_ret
          exact ⟨rfl, hW⟩
        · refine Tree.wp_make (.int .i64 yi) w8 (by go_simp; all_goals (with_reducible rfl)) ⟨trivial, ?_⟩
          simp only [Act.put, List.setIfInBounds_toArray, List.set_cons_zero, List.set_cons_succ]
          refine Tree.only (by rfl) (Tree.wp_make (.int .i64 yk) w8 (by go_simp; all_goals (with_reducible rfl)) ⟨trivial, ?_⟩)
          simp only [Act.put, List.setIfInBounds_toArray, List.set_cons_zero, List.set_cons_succ]
          repeat (first | (refine Tree.take ?_ (by rfl) ?_ ?_; rotate_left; (· rintro w9 -; go_simp; (try rw [if_neg (by omega)]); all_goals (with_reducible rfl)); simp only [Act.put, List.setIfInBounds_toArray, List.set_cons_zero, List.set_cons_succ]))
          refine Tree.only (by rfl) (K9.store_own irOk rfl 0 rfl 3 (.tmp 63) (.tmp 58) rfl hi1 yk (u := .int .i64 yk) rfl (by rfl) (by rfl) int_info1 rfl ?_)
          intro w10 K10 _
          simp only [List.set] at K10
          refine ⟨trivial, ?_⟩
          simp only [Act.put]
          repeat (first | (refine Tree.take ?_ (by rfl) ?_ ?_; rotate_left; (· rintro w9 -; go_simp; (try rw [if_neg (by omega)]); all_goals (with_reducible rfl)); simp only [Act.put, List.setIfInBounds_toArray, List.set_cons_zero, List.set_cons_succ]))
          refine Tree.only (by rfl) (K10.store_own irOk rfl 0 rfl 3 (.tmp 64) (.tmp 62) rfl hk1 yi (u := .int .i64 yi) rfl (by rfl) (by rfl) int_info1 rfl ?_)
          intro w11 K11 _
          simp only [List.set] at K11
          refine ⟨trivial, ?_⟩
          simp only [Act.put]
          refine Tree.ends ?_
          have lo : TList IR w11 (fun b => w6.heap.size ≤ b) (some ⟨gA, 0, none⟩) on cA _ := K11.list irOk 0 rfl
          replace lx := lx.same K11.hb
          replace lb := lb.same K11.hb
          replace hW := hW.trans (K11.hb.mono hW.size)
          go_wp2_with (first
            | (go_at_call 12; ((with_reducible refine (HC.out _ _ _ _ _ _ _ _ _ _ _ _ _ _ _ lb lx lo hbn hm hop).mono ?_); rintro r9 w20 ⟨rfl, h9⟩; replace lx := lx.same h9; replace lb := lb.same h9; replace lo := lo.same h9; replace hW := hW.trans (h9.mono hW.size); clear h9))
            | (go_at_call 13; ((with_reducible refine (HK.out _ _ _ _ _ _ _ _ _ _ _ _ _ _ _ lb lx lo hbn hm).mono ?_); rintro r9 w21 ⟨rfl, h9⟩; clear lb lx lo; replace hW := hW.trans (h9.mono hW.size); clear h9))
            | (go_at_call 11; ((with_reducible refine (HA.out _).mono ?_); rintro r9 w9 ⟨rfl, h9⟩; replace hW := hW.trans (h9.mono hW.size); clear h9)))
          go_ret
          exact ⟨rfl, hW⟩
  · rw [decide_eq_false hn] at HL
    go_enter Tryz.func4, Tryz.ntmps4
    go_wp2_with (first
      | (go_at_call 14; ((with_reducible refine (HL.out _).mono ?_); rintro r9 w9 ⟨rfl, rfl⟩))
      | (go_at_call 11; ((with_reducible refine (HA.out _).mono ?_); rintro r9 w9 ⟨rfl, h9⟩)))
    go_ret
    exact ⟨rfl, h9⟩
end Go.Proofs.YtnmhnjjehglcfaaGreat.Ents

/- The walk of the program's find: what is before each step, and the search from its beginning. -/
namespace Go.Proofs.YtnmhnjjehglcfaaGreat.SrchM
open LinMath
/-- the sets while they are made: those of the steps below i, and that of i with what is below j -/
def befT (S : List Stp) (n i j : Nat) : List Nat := (List.range n).map fun r => if r < i then befN S r n else if r = i then befN S r j else 0
theorem befT_start (S : List Stp) (n : Nat) : befT S n 0 0 = List.replicate n 0 := by
  apply List.ext_getElem?
  intro k
  unfold befT
  rw [List.getElem?_map, List.getElem?_replicate]
  by_cases hk : k < n
  · rw [List.getElem?_range hk, if_pos hk]
    by_cases h0 : k = 0
    · subst h0; simp [befN]
    · simp [h0]
  · rw [List.getElem?_eq_none (by simp; omega), if_neg hk]; rfl
theorem befT_row {S : List Stp} {n i : Nat} : befT S n i n = befT S n (i + 1) 0 := by
  unfold befT
  refine List.map_congr_left fun r _ => ?_
  by_cases h1 : r < i
  · rw [if_pos h1, if_pos (by omega)]
  · by_cases h2 : r = i
    · subst h2; rw [if_neg (by omega), if_pos rfl, if_pos (by omega)]
    · rw [if_neg h1, if_neg h2, if_neg (by omega)]
      split
      · rfl
      · rfl
theorem befT_done {S : List Stp} {n : Nat} (hn : S.length = n) : befT S n n 0 = Ents.befL S := by
  subst hn
  unfold befT Ents.befL
  refine List.map_congr_left fun r hr => ?_
  rw [if_pos (List.mem_range.1 hr)]
theorem befT_at {S : List Stp} {n i j : Nat} (hi : i < n) : (befT S n i j)[i]? = some (befN S i j) := by
  unfold befT
  rw [List.getElem?_map, List.getElem?_range hi]
  simp
theorem befT_yes {S : List Stp} {n i j : Nat} {a b : Stp} (hi : i < n) (ha : S[i]? = some a) (hb : S[j]? = some b) (h : b.tu < a.frm) : (befT S n i j).set i (befN S i j ||| 2 ^ j) = befT S n i (j + 1) := by
  have hN : befN S i (j + 1) = befN S i j ||| 2 ^ j := by simp [befN, ha, hb, h]
  apply List.ext_getElem?
  intro k
  by_cases hk : i = k
  · subst hk
    rw [List.getElem?_set_self (by simp [befT]; exact hi), befT_at hi, hN]
  · rw [List.getElem?_set_ne hk]
    unfold befT
    rw [List.getElem?_map, List.getElem?_map]
    by_cases hkn : k < n
    · rw [List.getElem?_range hkn]
      have hk2 : ¬ k = i := fun e => hk e.symm
      simp [hk2]
    · rw [List.getElem?_eq_none (by simp; omega)]
      rfl
theorem befT_no {S : List Stp} {n i j : Nat} {a b : Stp} (ha : S[i]? = some a) (hb : S[j]? = some b) (h : ¬ b.tu < a.frm) : befT S n i j = befT S n i (j + 1) := by
  have hN : befN S i (j + 1) = befN S i j := by simp [befN, ha, hb, h]
  unfold befT
  refine List.map_congr_left fun r _ => ?_
  by_cases h2 : r = i
  · subst h2; simp [hN]
  · simp [h2]
end Go.Proofs.YtnmhnjjehglcfaaGreat.SrchM
namespace Go.Proofs.YtnmhnjjehglcfaaGreat.Ents
open Go.RowKit Plan HisMath LinMath Rws Env LayMath Bits SrchM
theorem keep_from {w W : World} {T : List Thing} {F : Nat → Prop} (_ : Env w w []) (K : Env w W T) : Keep w F w [] W T :=
  ⟨K.hb.size, fun b hb => ⟨hb.1, Nat.lt_of_lt_of_le hb.2.1 K.hb.size, fun x hx e => by have := ((K.hold x hx).lt e).1; have := hb.2.1; omega⟩, fun b hb => K.hb.block b hb.2.1⟩
theorem lseen_new {w W : World} {T : List Thing} (K : Env w W T) : Env w (W.alloc (.map #[] 0)) (lseenT W.heap.size [] :: T) := by
  have h : (W.alloc (.map #[] 0)).heap[W.heap.size]? = some (.map #[] 0) := heap_alloc_new W _
  exact K.cons ((Below.refl _ _).alloc (Nat.le_refl _) _) (lseen_holds (LsSeen.new h) K.hb.size) (fun g hg => by obtain rfl : g = W.heap.size := hg; exact Nat.le_refl _)
theorem fin_b {S : List Stp} {v : ByteArray} {Sn Sn' : List (Int × ByteArray)} {b : Bool} {OL : List Int} (hf : FinM S ⟨0, v, []⟩ Sn b OL Sn') : (Compl S 0 v → b = true) ∧ (¬ Compl S 0 v → b = false) := by
  cases b with
  | true =>
    refine ⟨fun _ => rfl, fun hn => absurd ?_ hn⟩
    obtain ⟨t, ⟨l, h1, _⟩, h3, _⟩ := hf.yes rfl
    exact ⟨l, _, _, h1, h3⟩
  | false => exact ⟨fun hc => absurd hc (hf.no rfl), fun _ => rfl⟩
/-- what find leaves -/
def FindPost (S : List Stp) (v : ByteArray) (w : World) (r : Ending) (w' : World) : Prop :=
  ∃ (la : Option Addr) (ln lc : Nat) (l : List Nat) (b : Bool), r = .returned (.tuple #[.slice la ln lc, .bool b]) ∧ TList IR w' (fun x => w.heap.size ≤ x) la ln lc (serO S l) ∧ Below w.heap.size w w' ∧
    (b = true ↔ Compl S 0 v) ∧ (b = true → ∃ D' u, Run S 0 v l D' u ∧ goal S D') ∧ (b = false → l = [] )
set_option maxHeartbeats 8000000 in
set_option maxRecDepth 20000 in
theorem find_any (S : List Stp) (hS : SOk S) (v : ByteArray) (hv : v.size ≤ maxLen) (hvs : ∀ a ∈ S, a.value.size ≤ maxLen) (sa : Option Addr) (sn sc : Nat) (hn : sn ≤ 30) (F : Nat → Prop) (w : World) (sl : PList w F sa sn sc S) :
    Calls Tryz.prog 54 #[.string v, .slice sa sn sc] w (FindPost S v w) := by
  have hlen := sl.length
  obtain ⟨hcp, hcm⟩ := sl.cap
  unfold maxLen at hcm
  have hmk := fun W => run_make_rows urOk 0 rfl 128 rfl .i64 .i64 sn (by simp only [UR]; omega) (by omega) W
  have sl0 := sl.rest0
  have hmm := fun W => (show (Instr.makeMap 129 none).run Tryz.prog W = .ok (.map (some W.heap.size)) (W.alloc (.map #[] 0)) from rfl)
  have HF := Lib.hid (finish_any S hS)
  have K := lseen_new ((Env.start w).mades urOk 0 sn (by unfold maxLen; omega))
  simp only [World.size_alloc] at K
  replace K := K.al (.cells #[.slice sa sn sc, .slice (some ⟨w.heap.size, 0, none⟩) sn sn, .map (some (w.heap.size + 1)), .slice none 0 0] 131)
  simp only [World.size_alloc] at K
  have sl1 : PList _ (Quiet w F _ _) sa sn sc S := sl0.keep (keep_from (Env.start w) K)
  go_enter Tryz.func54, Tryz.ntmps54
  go_upto_region 2 with fail
  generalize ((w.alloc (.cells (UR.all (List.replicate sn 0)).toArray UR.et)).alloc (.map #[] 0)).alloc (.cells #[.slice sa sn sc, .slice (some ⟨w.heap.size, 0, none⟩) sn sn, .map (some (w.heap.size + 1)), .slice none 0 0] 131) = w1 at *
  obtain ⟨GB, hGB⟩ : ∃ GB, GB = w.heap.size := ⟨_, rfl⟩
  obtain ⟨MB, hMB⟩ : ∃ MB, MB = w.heap.size + 1 := ⟨_, rfl⟩
  obtain ⟨G, hG⟩ : ∃ G, G = w.heap.size + 1 + 1 := ⟨_, rfl⟩
  simp only [← hG] at K sl1 ⊢
  simp only [← hMB] at K sl1 ⊢
  simp only [← hGB] at K sl1 ⊢
  clear hGB hMB hG hmk hmm
  rw [← befT_start S sn] at K sl1
  have k := K.keep_refl (F := F)
  have sl0 := sl1
  clear sl1 sl
  go_wp2_with fail
  go_loopw [19] (fun x wr => ∃ i : Nat, x = .int .i64 (i : Int) ∧ i ≤ sn ∧ Env w wr [.box G (.cells #[.slice sa sn sc, .slice (some ⟨GB, 0, none⟩) sn sn, .map (some MB), .slice none 0 0] 131 (0, 0)), lseenT MB [], Env.lst UR (Env.slv GB sn sn) sn (befT S sn i 0)] ∧ Keep w F w1 [.box G (.cells #[.slice sa sn sc, .slice (some ⟨GB, 0, none⟩) sn sn, .map (some MB), .slice none 0 0] 131 (0, 0)), lseenT MB [], Env.lst UR (Env.slv GB sn sn) sn (befT S sn 0 0)] wr [.box G (.cells #[.slice sa sn sc, .slice (some ⟨GB, 0, none⟩) sn sn, .map (some MB), .slice none 0 0] 131 (0, 0)), lseenT MB [], Env.lst UR (Env.slv GB sn sn) sn (befT S sn i 0)]) (fun x _ => sn - (intOf x).toNat)
  case atStart => exact ⟨0, rfl, by omega, K, k⟩
  case round =>
    clear K k
    obtain ⟨i, rfl, hi', K, k⟩ := hrel
    by_cases hi : i < sn
    · obtain ⟨xs0, a, hx, ha, c0, c1, c2, c3, c4⟩ := stp_at (sl0.keep k) i hi
      subst hx
      have hiI : (i : Int) < (sn : Int) := by omega
      have HA := Lib.hid ha
      have hN := Lib.hid (befT_at (S := S) (j := 0) hi)
      obtain ⟨ay, ar, av, af, au⟩ := a
      simp only at c0 c1 c2 c3 c4
      go_upto_region 5 with fail
      have k9 := K.keep_al (F := F) (.cells #[.int .i64 ay, .bool ar, .string av, .int .i64 af, .int .i64 au] 94)
      have K9 := K.al (.cells #[.int .i64 ay, .bool ar, .string av, .int .i64 af, .int .i64 au] 94)
      replace k := k.trans k9
      clear k9 K
      have K := K9
      clear K9
      obtain ⟨gx, hg⟩ : ∃ gx, wr.heap.size = gx := ⟨_, rfl⟩
      rw [hg] at K k
      simp only [hg]
      generalize wr.alloc (.cells #[.int .i64 ay, .bool ar, .string av, .int .i64 af, .int .i64 au] 94) = w2 at *
      clear c0 c1 c2 c3 c4 hg ha
      go_wp2_with fail
      go_loopw [26] (fun x wr => ∃ j : Nat, x = .int .i64 (j : Int) ∧ j ≤ sn ∧ Env w wr (.box gx (.cells #[.int .i64 ay, .bool ar, .string av, .int .i64 af, .int .i64 au] 94 (0, 0)) :: [.box G (.cells #[.slice (some xs0) sn sc, .slice (some ⟨GB, 0, none⟩) sn sn, .map (some MB), .slice none 0 0] 131 (0, 0)), lseenT MB [], Env.lst UR (Env.slv GB sn sn) sn (befT S sn i j)]) ∧ Keep w F w1 [.box G (.cells #[.slice (some xs0) sn sc, .slice (some ⟨GB, 0, none⟩) sn sn, .map (some MB), .slice none 0 0] 131 (0, 0)), lseenT MB [], Env.lst UR (Env.slv GB sn sn) sn (befT S sn 0 0)] wr (.box gx (.cells #[.int .i64 ay, .bool ar, .string av, .int .i64 af, .int .i64 au] 94 (0, 0)) :: [.box G (.cells #[.slice (some xs0) sn sc, .slice (some ⟨GB, 0, none⟩) sn sn, .map (some MB), .slice none 0 0] 131 (0, 0)), lseenT MB [], Env.lst UR (Env.slv GB sn sn) sn (befT S sn i j)])) (fun x _ => sn - (intOf x).toNat)
      case atStart => exact ⟨0, rfl, by omega, K, k⟩
      case round =>
        clear K k
        obtain ⟨j, rfl, hj', K, k⟩ := hrel
        by_cases hj : j < sn
        · obtain ⟨x9, b, hx, hb, c0, c1, c2, c3, c4⟩ := stp_at (sl0.keep k) j hj
          obtain rfl := Option.some.inj hx
          have hjI : (j : Int) < (sn : Int) := by omega
          have HY := Lib.hid (fun h => befT_yes hi HA.out hb h)
          have HN := Lib.hid (fun h => befT_no (n := sn) HA.out hb h)
          have HBT := befT_at (S := S) (j := j) hi
          have hBl := pow_lt30 (by omega) (bef_lt S i j)
          have hor := Lib.hid (bits_or32 hBl (show 2 ^ j < 2 ^ 30 from Nat.pow_lt_pow_right (by decide) (by omega)))
          have hsh := Lib.hid (shl_wrap (i := j) (by omega))
          obtain ⟨bY, br, bv, bf, bu⟩ := b
          simp only at c0 c1 c2 c3 c4 HY HN
          go_upto_region 8 with fail
          have k9 := K.keep_al (F := F) (.cells #[.int .i64 bY, .bool br, .string bv, .int .i64 bf, .int .i64 bu] 94)
          have K9 := K.al (.cells #[.int .i64 bY, .bool br, .string bv, .int .i64 bf, .int .i64 bu] 94)
          replace k := k.trans k9
          clear k9 K
          have K := K9
          clear K9
          obtain ⟨gy, hg⟩ : ∃ gy, wr.heap.size = gy := ⟨_, rfl⟩
          rw [hg] at K k
          simp only [hg]
          generalize wr.alloc (.cells #[.int .i64 bY, .bool br, .string bv, .int .i64 bf, .int .i64 bu] 94) = w3 at *
          clear c0 c1 c2 c3 c4 hg hb hx
          obtain ⟨a0, a1, a2, a3, a4⟩ := stp_cells (K.get 1 rfl)
          obtain ⟨b0, b1, b2, b3, b4⟩ := stp_cells (K.get 0 rfl)
          by_cases hlt : bu < af
          · have HE := Lib.hid (HY.out hlt)
            have hdec : decide (bu < af) = true := decide_eq_true hlt
            clear HY HN hlt
            go_upto_region 9 with fail
            clear a0 a1 a2 a3 a4 b0 b1 b2 b3 b4 hdec
            generalize befN S i j = BN at *
            refine Tree.start (fun W => W.cell? ⟨G, 1, none⟩ = some (.slice (some ⟨GB, 0, none⟩) sn sn)) (.take 0 (.take 1 (.take 2 (.take 3 (.take 5 (.take 6 (.only 4 (.take 7 (.take 8 (.only 9 (.done))))))))))) (by kernel_rfl) (by kernel_rfl) (by kernel_rfl) (by kernel_rfl) (cell_of_row _ _ 1 _ _ _ (K.drew.get 2 rfl)) ?_
            simp only [Tree.T.map, List.getElem?_toArray, List.getElem?_cons_zero, List.getElem?_cons_succ]
            replace k := k.trans K.keep_drew
            replace K := K.drew
            obtain ⟨w4, hw4⟩ := K.name
            rw [← hw4] at K k ⊢
            clear hw4
            have hcB := (K.own1 urOk rfl 4 rfl HBT rfl).1
            repeat (refine Tree.take ?_ (by rfl) ?_ ?_; rotate_left; (· rintro w9 u0; go_simp; all_goals (with_reducible rfl)); simp only [Act.put, List.setIfInBounds_toArray, List.set_cons_zero, List.set_cons_succ])
            refine Tree.only (by rfl) (Tree.wp_make (.int .u32 (BN : Int)) w4 ?_ ⟨cell_of_row _ _ 1 _ _ _ (K.get 2 rfl), ?_⟩)
            · go_simp
            simp only [Act.put, List.setIfInBounds_toArray, List.set_cons_zero, List.set_cons_succ]
            repeat (refine Tree.take ?_ (by rfl) ?_ ?_; rotate_left; (· rintro w9 u0; go_simp; all_goals (with_reducible rfl)); simp only [Act.put, List.setIfInBounds_toArray, List.set_cons_zero, List.set_cons_succ])
            refine Tree.only (by rfl) (K.store_own urOk rfl 4 rfl 133 (.tmp 44) (.tmp 43) rfl hi (BN ||| 2 ^ j) rfl rfl (by rw [← hor.out, ← hsh.out]; rfl) (by kernel_rfl) rfl ?_)
            intro w5 K9 k9
            simp only [List.set] at K9 k9
            refine ⟨cell_of_row _ _ 1 _ _ _ (K9.get 2 rfl), ?_⟩
            simp only [Act.put]
            refine Tree.ends ?_
            replace k := (k.trans (k9 F)).trans (K9.keep_sub fun _ h => List.mem_cons_of_mem _ h)
            clear K k9 hcB
            have K := K9.tail
            clear K9
            rw [HE.out] at K k
            go_wp2_with fail
            go_roundw
            case rel => exact ⟨j + 1, by go_num, by omega, K, k⟩
            case measure => simp [intOf]; omega
          · have HE := Lib.hid (HN.out hlt)
            have hdec : decide (bu < af) = false := decide_eq_false hlt
            clear HY HN
            replace k := k.trans (K.keep_sub fun _ h => List.mem_cons_of_mem _ h)
            replace K := K.tail
            rw [HE.out] at K k
            go_wp2_with fail
            go_roundw
            case rel => exact ⟨j + 1, by go_num, by omega, K, k⟩
            case measure => simp [intOf]; omega
        · obtain rfl : j = sn := by omega
          have hjI : ¬ (j : Int) < (j : Int) := by omega
          replace k := k.trans (K.keep_sub fun _ h => List.mem_cons_of_mem _ h)
          replace K := K.tail
          rw [befT_row] at K k
          go_wp2_with fail
          go_roundw
          case rel => exact ⟨i + 1, by go_num, by omega, K, k⟩
          case measure => simp [intOf]; omega
    · obtain rfl : i = sn := by omega
      have hiI : ¬ (i : Int) < (i : Int) := by omega
      rw [befT_done hlen] at K k
      have bl0 : TList UR wr (Quiet w F wr [.box G (.cells #[.slice sa i sc, .slice (some ⟨GB, 0, none⟩) i i, .map (some MB), .slice none 0 0] 131 (0, 0)), lseenT MB []]) (some ⟨GB, 0, none⟩) i i (befL S) := K.settle urOk 2 rfl
      have kd := K.keep_sub (F := F) (T' := [.box G (.cells #[.slice sa i sc, .slice (some ⟨GB, 0, none⟩) i i, .map (some MB), .slice none 0 0] 131 (0, 0)), lseenT MB []]) (fun x h => by simp only [List.mem_cons, List.not_mem_nil, or_false] at h ⊢; rcases h with h | h; exact .inl h; exact .inr (.inl h))
      have Kd := K.sub (T' := [.box G (.cells #[.slice sa i sc, .slice (some ⟨GB, 0, none⟩) i i, .map (some MB), .slice none 0 0] 131 (0, 0)), lseenT MB []]) [0, 1] rfl (by simp) (by simp)
      have kn := Kd.keep_nil (F := F) IR
      have Kn := Kd.nil IR
      have kp := Kn.keep_perm (F := F) (List.Perm.swap (α := Thing) (.box G (.cells #[.slice sa i sc, .slice (some ⟨GB, 0, none⟩) i i, .map (some MB), .slice none 0 0] 131 (0, 0))) _ [lseenT MB []])
      have Kp := Kn.perm (List.Perm.swap (α := Thing) (.box G (.cells #[.slice sa i sc, .slice (some ⟨GB, 0, none⟩) i i, .map (some MB), .slice none 0 0] 131 (0, 0))) _ [lseenT MB []])
      have sl11 := ((((sl0.keep k).keep kd).keep kn).keep kp)
      have bl11 := ((bl0.keep kn).keep kp)
      have HFI := Lib.hid (show Calls Tryz.prog 89 #[.pointer (some ⟨G, 0, none⟩), .agg #[.int .u32 0, .string v]] wr (FPost (FinM S ⟨0, v, []⟩ []) G sa i sc (some ⟨GB, 0, none⟩) i MB S ⟨0, v, []⟩ [] w wr F [] (.slice none 0 0)) from HF.out G MB i sc i sa _ hn hlen v hv hvs (2 ^ i) ⟨0, v, []⟩ (by simp) (Goes.refl _) w wr F [] (.slice none 0 0) [] Kp sl11 bl11 (fun _ _ h => by cases h))
      clear HF k K bl0 kd Kd kn Kn kp Kp sl11 bl11 sl0
      by_cases hc : Compl S 0 v
      · have HC := Lib.hid hc
        clear hc
        go_wp2_with (first
          | (go_at_call 89; ((with_reducible refine HFI.out.mono ?_); rintro r9 w5 ⟨ov', n', OL', Sn', b, rfl, K, k, hf⟩; obtain rfl : b = true := (fin_b hf).1 HC.out; have HY := Lib.hid (hf.yes rfl); clear hf k; clear HFI; obtain ⟨oa, oc, rfl, lo⟩ := K.any irOk 1 rfl; have hcO := cell_of_row _ _ 3 _ _ _ (K.get 0 rfl))))
        go_ret2
        obtain ⟨t, ⟨l, h1, h2⟩, h3, h4⟩ := HY.out
        subst h4
        exact ⟨_, _, _, t.o, true, rfl, lo, K.hb, ⟨fun _ => HC.out, fun _ => rfl⟩, fun _ => ⟨_, _, by rw [h2]; exact h1, h3⟩, fun h => by cases h⟩
      · have HC := Lib.hid hc
        clear hc
        go_wp2_with (first
          | (go_at_call 89; ((with_reducible refine HFI.out.mono ?_); rintro r9 w5 ⟨ov', n', OL', Sn', b, rfl, K, k, hf⟩; obtain rfl : b = false := (fin_b hf).2 HC.out; clear hf; clear k; clear HFI)))
        go_ret2
        exact ⟨none, 0, 0, [], false, rfl, TList.nil _ _, K.hb, ⟨fun h => (by cases h), fun h => absurd h HC.out⟩, fun h => (by cases h), fun _ => rfl⟩
end Go.Proofs.YtnmhnjjehglcfaaGreat.Ents

/- The walks of the program's Check and Zero of commands. -/
namespace Go.Proofs.YtnmhnjjehglcfaaGreat.Ents
open Go.RowKit Plan LayMath CmdMath
set_option maxHeartbeats 4000000 in
set_option maxRecDepth 20000 in
theorem mayC_any (cz cs cb cq cd ch k b : Int) (s : ByteArray) (w : World) :
    Calls Tryz.prog 150 #[confV cz cs cb cq cd ch, cmdV k b s] w fun r w' => r = .returned (.bool (mayB cb k b)) ∧ Below w.heap.size w w' := by
  unfold confV mayB
  have hA := ((Below.refl w.heap.size w).alloc (Nat.le_refl _) (confRow cz cs cb cq cd ch)).alloc (by simp) (cmdRow k b s)
  have hcf : ((w.alloc (confRow cz cs cb cq cd ch)).alloc (cmdRow k b s)).cell? ⟨w.heap.size, 2, none⟩ = some (.int .i64 cb) := cell_of_row _ _ 2 _ _ _ ((Below.heap_alloc _ _ _ (by simp)).trans (heap_alloc_new w (confRow cz cs cb cq cd ch)))
  obtain ⟨c0, c1, c2⟩ := cmd_cells (w := (w.alloc (confRow cz cs cb cq cd ch)).alloc (cmdRow k b s)) (g := w.heap.size + 1) (by have := heap_alloc_new (w.alloc (confRow cz cs cb cq cd ch)) (cmdRow k b s); rwa [World.size_alloc] at this)
  by_cases h4 : k = 4
  · subst h4
    rw [if_pos rfl]
    go_enter Tryz.func150, Tryz.ntmps150
    generalize hw0 : (w.alloc (confRow cz cs cb cq cd ch)).alloc (cmdRow _ b s) = w0 at *
    go_wp2
    all_goals go_ret
    all_goals exact ⟨by simp [BEq.beq], hA⟩
  · rw [if_neg h4]
    have d4 : (k == 4) = false := by simpa using h4
    clear h4
    by_cases h1 : 0 ≤ b
    · by_cases h2 : b < cb
      · go_enter Tryz.func150, Tryz.ntmps150
        generalize hw0 : (w.alloc (confRow cz cs cb cq cd ch)).alloc (cmdRow _ b s) = w0 at *
        go_wp2
        all_goals go_ret
        all_goals exact ⟨by simp [h1, h2], hA⟩
      · go_enter Tryz.func150, Tryz.ntmps150
        generalize hw0 : (w.alloc (confRow cz cs cb cq cd ch)).alloc (cmdRow _ b s) = w0 at *
        go_wp2
        all_goals go_ret
        all_goals exact ⟨by simp [h2], hA⟩
    · go_enter Tryz.func150, Tryz.ntmps150
      generalize hw0 : (w.alloc (confRow cz cs cb cq cd ch)).alloc (cmdRow _ b s) = w0 at *
      go_wp2
      all_goals go_ret
      all_goals exact ⟨by simp; omega, hA⟩
set_option maxHeartbeats 4000000 in
set_option maxRecDepth 20000 in
theorem check_any (cz cs cb cq cd ch k b : Int) (s : ByteArray) (w : World) :
    Calls Tryz.prog 131 #[confV cz cs cb cq cd ch, cmdV k b s] w fun r w' => r = .returned (.int .i64 (checkC cb k b s.size)) ∧ Below w.heap.size w w' := by
  have H1 := Lib.hid (fun W => isKindC_any k W)
  have H2 := Lib.hid (fun W => mayC_any cz cs cb cq cd ch k b s W)
  have H3 := Lib.hid (fun W => dataC_any k W)
  unfold confV at *
  have K := ((Bxs.start w).al (confRow cz cs cb cq cd ch)).al (cmdRow k b s)
  rw [World.size_alloc] at K
  by_cases hk : 1 ≤ k ∧ k ≤ 4
  · have e1 : (decide (1 ≤ k) && decide (k ≤ 4)) = true := by simp [hk.1, hk.2]
    rw [e1] at H1
    clear e1
    cases hM : mayB cb k b
    · rw [check_range (by omega) (mayB_no hM)]
      rw [hM] at H2
      clear hM hk
      go_enter Tryz.func131, Tryz.ntmps131
      generalize hw0 : (w.alloc (confRow cz cs cb cq cd ch)).alloc (cmdRow k b s) = w0 at *
      have hC0 : w0.heap[w.heap.size]? = some (confRow cz cs cb cq cd ch) := K.get 1 rfl
      have hX0 : w0.heap[w.heap.size + 1]? = some (cmdRow k b s) := K.get 0 rfl
      obtain ⟨c0, c1, c2⟩ := cmd_cells hX0
      go_wp2_with (first
        | ((with_reducible refine Plan.load_lit 101 (.tmp 2) w.heap.size ?_ hC0 Tryz.underlying101 ?_ ?_ ?_); (· rfl); (· rfl); (· exact conf_info); simp only [Act.put, List.setIfInBounds_toArray, List.set_cons_zero, List.set_cons_succ])
        | ((with_reducible refine Plan.load_lit 51 (.tmp 3) (w.heap.size + 1) ?_ hX0 Tryz.underlying51 ?_ ?_ ?_); (· rfl); (· rfl); (· exact cmd_info); simp only [Act.put, List.setIfInBounds_toArray, List.set_cons_zero, List.set_cons_succ])
        | (go_at_call 149; ((with_reducible refine (H1.out _).mono ?_); rintro r9 w9 ⟨rfl, rfl⟩))
        | (go_at_call 150; ((with_reducible refine (H2.out _).mono ?_); rintro r9 w1 ⟨rfl, h1⟩; have K1 := K.on h1)))
      go_ret
      exact ⟨rfl, K1.hb⟩
    · have hm := mayB_yes hM
      rw [hM] at H2
      clear hM
      by_cases h5 : (s.size : Int) = dataB k
      · have e2 : checkC cb k b s.size = 0 := check_fine (by omega) hm (by unfold dataB at h5; split at h5 <;> omega)
        rw [e2]
        have d5 : ((s.size : Int) != dataB k) = false := by simp [h5]
        generalize dataB k = DK at *
        clear e2 h5 hk hm
        go_enter Tryz.func131, Tryz.ntmps131
        generalize hw0 : (w.alloc (confRow cz cs cb cq cd ch)).alloc (cmdRow k b s) = w0 at *
        have hC0 : w0.heap[w.heap.size]? = some (confRow cz cs cb cq cd ch) := K.get 1 rfl
        have hX0 : w0.heap[w.heap.size + 1]? = some (cmdRow k b s) := K.get 0 rfl
        obtain ⟨c0, c1, c2⟩ := cmd_cells hX0
        go_wp2_with (first
          | ((with_reducible refine Plan.load_lit 101 (.tmp 2) w.heap.size ?_ hC0 Tryz.underlying101 ?_ ?_ ?_); (· rfl); (· rfl); (· exact conf_info); simp only [Act.put, List.setIfInBounds_toArray, List.set_cons_zero, List.set_cons_succ])
          | ((with_reducible refine Plan.load_lit 51 (.tmp 3) (w.heap.size + 1) ?_ hX0 Tryz.underlying51 ?_ ?_ ?_); (· rfl); (· rfl); (· exact cmd_info); simp only [Act.put, List.setIfInBounds_toArray, List.set_cons_zero, List.set_cons_succ])
          | (go_at_call 149; ((with_reducible refine (H1.out _).mono ?_); rintro r9 w9 ⟨rfl, rfl⟩))
          | (go_at_call 150; ((with_reducible refine (H2.out _).mono ?_); rintro r9 w1 ⟨rfl, h1⟩; have K1 := K.on h1)))
        clear hw0 hC0 hX0 c0 c1 c2 h1 K
        refine Plan.start (fun W => W.cell? ⟨w.heap.size + 1, 0, none⟩ = some (.int .i64 k) ∧ W.cell? ⟨w.heap.size + 1, 2, none⟩ = some (.string s)) [(0, true), (1, true), (2, true), (3, true), (4, true), (5, false), (6, true), (7, true)] (by kernel_rfl) (by kernel_rfl) (by kernel_rfl) (by kernel_rfl) ⟨(cmd_cells (K1.drew.get 0 rfl)).1, (cmd_cells (K1.drew.get 0 rfl)).2.2⟩ ?_
        simp only [List.map_cons, List.map_nil, List.getElem?_toArray, List.getElem?_cons_zero, List.getElem?_cons_succ]
        have K := K1.drew
        clear K1
        generalize w1.drew = w2 at *
        repeat (first | (refine Plan.take ?_ (by rfl) ?_ ?_; rotate_left; (· rintro w9 ⟨u0, u1⟩; go_simp; (try rw [if_neg (by omega)]); all_goals (with_reducible rfl)); simp only [Act.put, List.setIfInBounds_toArray, List.set_cons_zero, List.set_cons_succ]) | (refine Plan.pass (by rfl) ?_; simp only [Act.put, List.setIfInBounds_toArray, List.set_cons_zero, List.set_cons_succ]))
        refine Plan.call (by rfl) 151 _ ?_ (H3.out _) ?_
        · go_simp
        rintro r9 w9 ⟨rfl, rfl⟩
        refine ⟨_, rfl, ⟨(cmd_cells (K.get 0 rfl)).1, (cmd_cells (K.get 0 rfl)).2.2⟩, ?_⟩
        simp only [Act.put, List.setIfInBounds_toArray, List.set_cons_zero, List.set_cons_succ]
        repeat (first | (refine Plan.take ?_ (by rfl) ?_ ?_; rotate_left; (· rintro w9 ⟨u0, u1⟩; go_simp; (try rw [if_neg (by omega)]); all_goals (with_reducible rfl)); simp only [Act.put, List.setIfInBounds_toArray, List.set_cons_zero, List.set_cons_succ]) | (refine Plan.pass (by rfl) ?_; simp only [Act.put, List.setIfInBounds_toArray, List.set_cons_zero, List.set_cons_succ]))
        refine Plan.ends ?_
        go_wp2_with fail
        go_ret
        exact ⟨rfl, K.hb⟩
      · have e2 : checkC cb k b s.size = 2 := check_size (by omega) hm (by unfold dataB at h5; split at h5 <;> omega)
        rw [e2]
        have d5 : ((s.size : Int) != dataB k) = true := by simp [h5]
        generalize dataB k = DK at *
        clear e2 h5 hk hm
        go_enter Tryz.func131, Tryz.ntmps131
        generalize hw0 : (w.alloc (confRow cz cs cb cq cd ch)).alloc (cmdRow k b s) = w0 at *
        have hC0 : w0.heap[w.heap.size]? = some (confRow cz cs cb cq cd ch) := K.get 1 rfl
        have hX0 : w0.heap[w.heap.size + 1]? = some (cmdRow k b s) := K.get 0 rfl
        obtain ⟨c0, c1, c2⟩ := cmd_cells hX0
        go_wp2_with (first
          | ((with_reducible refine Plan.load_lit 101 (.tmp 2) w.heap.size ?_ hC0 Tryz.underlying101 ?_ ?_ ?_); (· rfl); (· rfl); (· exact conf_info); simp only [Act.put, List.setIfInBounds_toArray, List.set_cons_zero, List.set_cons_succ])
          | ((with_reducible refine Plan.load_lit 51 (.tmp 3) (w.heap.size + 1) ?_ hX0 Tryz.underlying51 ?_ ?_ ?_); (· rfl); (· rfl); (· exact cmd_info); simp only [Act.put, List.setIfInBounds_toArray, List.set_cons_zero, List.set_cons_succ])
          | (go_at_call 149; ((with_reducible refine (H1.out _).mono ?_); rintro r9 w9 ⟨rfl, rfl⟩))
          | (go_at_call 150; ((with_reducible refine (H2.out _).mono ?_); rintro r9 w1 ⟨rfl, h1⟩; have K1 := K.on h1)))
        clear hw0 hC0 hX0 c0 c1 c2 h1 K
        refine Plan.start (fun W => W.cell? ⟨w.heap.size + 1, 0, none⟩ = some (.int .i64 k) ∧ W.cell? ⟨w.heap.size + 1, 2, none⟩ = some (.string s)) [(0, true), (1, true), (2, true), (3, true), (4, true), (5, false), (6, true), (7, true)] (by kernel_rfl) (by kernel_rfl) (by kernel_rfl) (by kernel_rfl) ⟨(cmd_cells (K1.drew.get 0 rfl)).1, (cmd_cells (K1.drew.get 0 rfl)).2.2⟩ ?_
        simp only [List.map_cons, List.map_nil, List.getElem?_toArray, List.getElem?_cons_zero, List.getElem?_cons_succ]
        have K := K1.drew
        clear K1
        generalize w1.drew = w2 at *
        repeat (first | (refine Plan.take ?_ (by rfl) ?_ ?_; rotate_left; (· rintro w9 ⟨u0, u1⟩; go_simp; (try rw [if_neg (by omega)]); all_goals (with_reducible rfl)); simp only [Act.put, List.setIfInBounds_toArray, List.set_cons_zero, List.set_cons_succ]) | (refine Plan.pass (by rfl) ?_; simp only [Act.put, List.setIfInBounds_toArray, List.set_cons_zero, List.set_cons_succ]))
        refine Plan.call (by rfl) 151 _ ?_ (H3.out _) ?_
        · go_simp
        rintro r9 w9 ⟨rfl, rfl⟩
        refine ⟨_, rfl, ⟨(cmd_cells (K.get 0 rfl)).1, (cmd_cells (K.get 0 rfl)).2.2⟩, ?_⟩
        simp only [Act.put, List.setIfInBounds_toArray, List.set_cons_zero, List.set_cons_succ]
        repeat (first | (refine Plan.take ?_ (by rfl) ?_ ?_; rotate_left; (· rintro w9 ⟨u0, u1⟩; go_simp; (try rw [if_neg (by omega)]); all_goals (with_reducible rfl)); simp only [Act.put, List.setIfInBounds_toArray, List.set_cons_zero, List.set_cons_succ]) | (refine Plan.pass (by rfl) ?_; simp only [Act.put, List.setIfInBounds_toArray, List.set_cons_zero, List.set_cons_succ]))
        refine Plan.ends ?_
        go_wp2_with fail
        go_ret
        exact ⟨rfl, K.hb⟩
  · have e1 : (decide (1 ≤ k) && decide (k ≤ 4)) = false := by by_cases h1 : 1 ≤ k <;> simp [h1] <;> omega
    rw [e1] at H1
    rw [check_out (by omega)]
    clear e1 hk
    go_enter Tryz.func131, Tryz.ntmps131
    generalize hw0 : (w.alloc (confRow cz cs cb cq cd ch)).alloc (cmdRow k b s) = w0 at *
    have hX0 : w0.heap[w.heap.size + 1]? = some (cmdRow k b s) := K.get 0 rfl
    obtain ⟨c0, c1, c2⟩ := cmd_cells hX0
    go_wp2_with (first
      | (go_at_call 149; ((with_reducible refine (H1.out _).mono ?_); rintro r9 w9 ⟨rfl, rfl⟩)))
    go_ret
    exact ⟨rfl, K.hb⟩
theorem zero_any (w : World) : Calls Tryz.prog 133 #[] w fun r w' => r = .returned (.string zeroC) ∧ Below w.heap.size w w' := by
  have hr : ∀ W : World, Calls Tryz.prog 153 #[.string ⟨#[0]⟩, .int .i64 16] W fun e W' => e = .returned (.string zeroC) ∧ Below W.heap.size W W' := fun W => Tryz.strings_Repeat ⟨#[0]⟩ 16 W (by omega) (by show 1 * 16 ≤ _; omega)
  have HR := Lib.hid hr
  go_enter Tryz.func133, Tryz.ntmps133
  go_wp2_with (first
    | (go_at_call 153; ((with_reducible refine (HR.out _).mono ?_); rintro e w1 ⟨rfl, hb1⟩)))
  go_ret
  exact ⟨rfl, hb1⟩
theorem commandOk : CommandOk where
  check := check_any
  zero := zero_any
end Go.Proofs.YtnmhnjjehglcfaaGreat.Ents
