
/- The walks of the document's Submit and Take of rings. -/
import Derived.Test.YtljdepnhhngbeaaRingSame
import Derived.Test.YtljdepnhhngbeaaBaseEnv
import Derived.Test.YtljdepnhhngbeaaBaseTLoad
import Derived.Test.YtljdepnhhngbeaaCntClear
namespace Go.Proofs.Ytljdepnhhngbeaa.Ents
open Go.RowKit Plan RingMath Rws Env
theorem rqs_info1 : (Try.prog.info? 22).map (·.size) = some 1 := by kernel_rfl
theorem sub_inv {d : Int} {L : List Rq} {s : Int} (h : validG d L = false) : submitE d L s = 6 := by unfold submitE; rw [if_pos h]
theorem sub_full {d : Int} {L : List Rq} {s : Int} (h : validG d L = true) (h2 : (L.length : Int) = d) : submitE d L s = 13 := by unfold submitE; rw [if_neg (by rw [h]; decide), if_pos h2]
theorem sub_neg {d : Int} {L : List Rq} {s : Int} (h : validG d L = true) (h2 : ¬ (L.length : Int) = d) (h3 : s < 0) : submitE d L s = 17 := by unfold submitE; rw [if_neg (by rw [h]; decide), if_neg h2, if_pos h3]
theorem sub_first {d : Int} {L : List Rq} {s : Int} (h : validG d L = true) (h2 : ¬ (L.length : Int) = d) (h3 : ¬ s < 0) (h4 : L.length = 0) : submitE d L s = 0 := by
  obtain rfl := List.length_eq_zero_iff.1 h4
  unfold submitE; rw [if_neg (by rw [h]; decide), if_neg h2, if_neg h3]
  rfl
theorem sub_next {d : Int} {L : List Rq} {s : Int} {y : Rq} (h : validG d L = true) (h2 : ¬ (L.length : Int) = d) (h3 : ¬ s < 0) (h4 : L[L.length - 1]? = some y) : submitE d L s = if s ≤ y.serial then 17 else 0 := by
  unfold submitE lastG; rw [if_neg (by rw [h]; decide), if_neg h2, if_neg h3, h4]
theorem sub_stay {d : Int} {L : List Rq} {x : Rq} {e : Int} (h : submitE d L x.serial = e) (he : e ≠ 0) : submitG d L x = L := by unfold submitG; rw [h, if_neg he]
theorem sub_go {d : Int} {L : List Rq} {x : Rq} (h : submitE d L x.serial = 0) : submitG d L x = L ++ [x] := by unfold submitG; rw [h]; rfl
set_option maxHeartbeats 8000000 in
set_option maxRecDepth 20000 in
theorem refGSubmit_any (F : Nat → Prop) (L : List Rq) (d : Int) (a : Option Addr) (n c : Nat) (xs xk xb : Int) (xd : ByteArray) (w : World) (hl : GList w F a n c L) :
    Calls Try.prog 13 #[rgV d a n c, .agg #[.int .i64 xs, .int .i64 xk, .int .i64 xb, .string xd]] w (GPost w F d (submitG d L ⟨xs, xk, xb, xd⟩) (submitE d L xs)) := by
  have hlen := hl.length
  have hmx : n ≤ maxLen := Nat.le_trans hl.cap.1 hl.cap.2
  unfold maxLen at hmx
  have HV := Lib.hid (fun W (h : Below w.heap.size w W) => refGValid_any _ L d a n c W (hl.same h))
  have HEND := Lib.hid (fun W (h : Below w.heap.size w W) => (show GList W (fun b => F b ∨ w.heap.size ≤ b) a n c L from (hl.cut.on (Same.below h)).mono (fun b _ h => .inl h.1)))
  have HAT := Lib.hid (fun W (h : Below w.heap.size w W) i (hi : i < n) => rq_at (hl.same h) i hi)
  have HL := Lib.hid (fun W (h : Below w.heap.size w W) => hl.same h)
  have K := (((Env.start w).al (rgRow d a n c)).al (.cells #[.int .i64 xs, .int .i64 xk, .int .i64 xb, .string xd] 28)).al (rgRow 0 none 0 0)
  simp only [World.size_alloc] at K
  unfold GPost
  cases hva : validG d L
  · have e1 := @sub_inv d L xs hva
    rw [sub_stay (x := ⟨xs, xk, xb, xd⟩) e1 (by decide), e1]
    rw [hva] at HV
    clear hl e1 hva HAT HL hlen
    go_enter Try.func13, Try.ntmps13
    generalize hw0 : ((w.alloc (rgRow d a n c)).alloc (.cells #[.int .i64 xs, .int .i64 xk, .int .i64 xb, .string xd] 28)).alloc (rgRow 0 none 0 0) = w0 at *

    go_wp2_with (first
      | ((with_reducible refine Plan.load_lit 24 (.tmp 2) (w.heap.size) ?_ (K.get 2 rfl) Try.underlying24 ?_ ?_ ?_); (· rfl); (· rfl); (· exact rg_info); simp only [Act.put, List.setIfInBounds_toArray, List.set_cons_zero, List.set_cons_succ])
      | (go_at_call 16; ((with_reducible refine (HV.out _ K.hb).mono ?_); rintro r9 w1 ⟨rfl, h1⟩; have K1 := K.on h1; clear K h1 hw0; have K := K1; clear K1; obtain ⟨c0, c1⟩ := rg_cells (K.get 2 rfl)))
      | ((with_reducible refine Plan.load_lit 24 (.tmp 2) (w.heap.size) ?_ (K.get 2 rfl) Try.underlying24 ?_ ?_ ?_); (· rfl); (· rfl); (· exact rg_info); simp only [Act.put, List.setIfInBounds_toArray, List.set_cons_zero, List.set_cons_succ])
      | ((with_reducible refine Plan.store_lit 24 (.tmp 4) _ (w.heap.size + 1 + 1) ?_ (K.get 0 rfl) ?_ ?_ ?_ ?_ ?_ ?_); rotate_left; (· rfl); (· rfl); (· exact rg_info); (· rfl); (· simp [Value.oneCell']); simp only [Act.put]))
    have K9 := K.put 0 rfl (cs' := #[.int .i64 d, .slice (a) (n) (c)]) rfl
    exact bodyPost_ret (Plan.results_cell_tmp (p := 4) (q := 5) rfl _ _ _ _ _ _ _ rfl (K9.get 0 rfl) Try.underlying24 rfl rg_info) rfl ⟨_, _, _, rfl, HEND.out _ K9.hb, K9.hb⟩
  have hvl := valid_len hva
  rw [hva] at HV
  by_cases hd : (L.length : Int) = d
  · have e1 := @sub_full d L xs hva hd
    rw [sub_stay (x := ⟨xs, xk, xb, xd⟩) e1 (by decide), e1]
    have d1 : ((n : Int) == d) = true := by simp; omega
    have d2 : (n : Int) = d := by omega
    clear hl e1 hva HAT HL
    go_enter Try.func13, Try.ntmps13
    generalize hw0 : ((w.alloc (rgRow d a n c)).alloc (.cells #[.int .i64 xs, .int .i64 xk, .int .i64 xb, .string xd] 28)).alloc (rgRow 0 none 0 0) = w0 at *

    go_wp2_with (first
      | ((with_reducible refine Plan.load_lit 24 (.tmp 2) (w.heap.size) ?_ (K.get 2 rfl) Try.underlying24 ?_ ?_ ?_); (· rfl); (· rfl); (· exact rg_info); simp only [Act.put, List.setIfInBounds_toArray, List.set_cons_zero, List.set_cons_succ])
      | (go_at_call 16; ((with_reducible refine (HV.out _ K.hb).mono ?_); rintro r9 w1 ⟨rfl, h1⟩; have K1 := K.on h1; clear K h1 hw0; have K := K1; clear K1; obtain ⟨c0, c1⟩ := rg_cells (K.get 2 rfl)))
      | ((with_reducible refine Plan.load_lit 24 (.tmp 2) (w.heap.size) ?_ (K.get 2 rfl) Try.underlying24 ?_ ?_ ?_); (· rfl); (· rfl); (· exact rg_info); simp only [Act.put, List.setIfInBounds_toArray, List.set_cons_zero, List.set_cons_succ])
      | ((with_reducible refine Plan.store_lit 24 (.tmp 4) _ (w.heap.size + 1 + 1) ?_ (K.get 0 rfl) ?_ ?_ ?_ ?_ ?_ ?_); rotate_left; (· rfl); (· rfl); (· exact rg_info); (· rfl); (· simp [Value.oneCell']); simp only [Act.put]))
    have K9 := K.put 0 rfl (cs' := #[.int .i64 d, .slice (a) (n) (c)]) rfl
    exact bodyPost_ret (Plan.results_cell_tmp (p := 4) (q := 5) rfl _ _ _ _ _ _ _ rfl (K9.get 0 rfl) Try.underlying24 rfl rg_info) rfl ⟨_, _, _, rfl, HEND.out _ K9.hb, K9.hb⟩
  have d2 : ¬ (n : Int) = d := by omega
  have d3 : ((n : Int) == d) = false := by simpa using d2
  by_cases hs : xs < 0
  · have e1 := sub_neg hva hd hs
    rw [sub_stay (x := ⟨xs, xk, xb, xd⟩) e1 (by decide), e1]
    clear hl e1 hva HAT HL hd
    go_enter Try.func13, Try.ntmps13
    generalize hw0 : ((w.alloc (rgRow d a n c)).alloc (.cells #[.int .i64 xs, .int .i64 xk, .int .i64 xb, .string xd] 28)).alloc (rgRow 0 none 0 0) = w0 at *

    go_upto_region 5 with (first
      | ((with_reducible refine Plan.load_lit 24 (.tmp 2) (w.heap.size) ?_ (K.get 2 rfl) Try.underlying24 ?_ ?_ ?_); (· rfl); (· rfl); (· exact rg_info); simp only [Act.put, List.setIfInBounds_toArray, List.set_cons_zero, List.set_cons_succ])
      | (go_at_call 16; ((with_reducible refine (HV.out _ K.hb).mono ?_); rintro r9 w1 ⟨rfl, h1⟩; have K1 := K.on h1; clear K h1 hw0; have K := K1; clear K1; obtain ⟨c0, c1⟩ := rg_cells (K.get 2 rfl))))
    refine Plan.start (fun W => (W.cell? ⟨w.heap.size, 0, none⟩ = some (.int .i64 d) ∧ W.cell? ⟨w.heap.size, 1, none⟩ = some (.slice a n c)) ∧ W.cell? ⟨w.heap.size + 1, 0, none⟩ = some (.int .i64 xs)) [(0, true), (1, true), (2, true), (3, true), (4, true), (5, true), (6, true), (7, true), (8, true), (9, true), (10, true), (11, true), (12, true), (13, true), (14, true), (15, true), (16, true), (17, true), (18, true), (19, true), (20, true), (21, true), (22, true), (23, true)] (by kernel_rfl) (by kernel_rfl) (by kernel_rfl) (by kernel_rfl) ⟨rg_cells (K.drew.get 2 rfl), cell_of_row _ _ 0 _ _ _ (K.drew.get 1 rfl)⟩ ?_
    simp only [List.map_cons, List.map_nil, List.getElem?_toArray, List.getElem?_cons_zero, List.getElem?_cons_succ]
    repeat (first | (refine Plan.take ?_ (by rfl) ?_ ?_; rotate_left; (· rintro w9 ⟨⟨u0, u1⟩, u2⟩; go_simp; (try rw [if_neg (by omega)]); all_goals (with_reducible rfl)); simp only [Act.put, List.setIfInBounds_toArray, List.set_cons_zero, List.set_cons_succ]) | (refine Plan.pass (by rfl) ?_; simp only [Act.put, List.setIfInBounds_toArray, List.set_cons_zero, List.set_cons_succ]))
    refine Plan.ends ?_
    have K9 := K.drew
    clear K
    have K := K9
    clear K9
    generalize World.drew _ = w2 at *
    obtain ⟨c0, c1⟩ := rg_cells (K.get 2 rfl)
    go_wp2_with (first
      | ((with_reducible refine Plan.load_lit 24 (.tmp 2) (w.heap.size) ?_ (K.get 2 rfl) Try.underlying24 ?_ ?_ ?_); (· rfl); (· rfl); (· exact rg_info); simp only [Act.put, List.setIfInBounds_toArray, List.set_cons_zero, List.set_cons_succ])
      | ((with_reducible refine Plan.store_lit 24 (.tmp 4) _ (w.heap.size + 1 + 1) ?_ (K.get 0 rfl) ?_ ?_ ?_ ?_ ?_ ?_); rotate_left; (· rfl); (· rfl); (· exact rg_info); (· rfl); (· simp [Value.oneCell']); simp only [Act.put]))
    have K9 := K.put 0 rfl (cs' := #[.int .i64 d, .slice (a) (n) (c)]) rfl
    exact bodyPost_ret (Plan.results_cell_tmp (p := 4) (q := 5) rfl _ _ _ _ _ _ _ rfl (K9.get 0 rfl) Try.underlying24 rfl rg_info) rfl ⟨_, _, _, rfl, HEND.out _ K9.hb, K9.hb⟩
  have t1 : decide (xs < 0) = false := decide_eq_false hs
  by_cases hn : n = 0
  · have e1 := sub_first hva hd hs (by omega)
    rw [sub_go (x := ⟨xs, xk, xb, xd⟩) e1, e1]
    have hnI : ¬ (0 : Int) < (n : Int) := by omega
    have hnN : ¬ 0 < n := by omega
    clear hn
    clear e1 hva HAT hd HEND hl
    go_enter Try.func13, Try.ntmps13
    generalize hw0 : ((w.alloc (rgRow d a n c)).alloc (.cells #[.int .i64 xs, .int .i64 xk, .int .i64 xb, .string xd] 28)).alloc (rgRow 0 none 0 0) = w0 at *

    go_upto_region 5 with (first
      | ((with_reducible refine Plan.load_lit 24 (.tmp 2) (w.heap.size) ?_ (K.get 2 rfl) Try.underlying24 ?_ ?_ ?_); (· rfl); (· rfl); (· exact rg_info); simp only [Act.put, List.setIfInBounds_toArray, List.set_cons_zero, List.set_cons_succ])
      | (go_at_call 16; ((with_reducible refine (HV.out _ K.hb).mono ?_); rintro r9 w1 ⟨rfl, h1⟩; have K1 := K.on h1; clear K h1 hw0; have K := K1; clear K1; obtain ⟨c0, c1⟩ := rg_cells (K.get 2 rfl))))
    refine Plan.start (fun W => (W.cell? ⟨w.heap.size, 0, none⟩ = some (.int .i64 d) ∧ W.cell? ⟨w.heap.size, 1, none⟩ = some (.slice a n c)) ∧ W.cell? ⟨w.heap.size + 1, 0, none⟩ = some (.int .i64 xs)) [(0, true), (1, true), (2, true), (3, true), (4, true), (5, true), (6, true), (7, true), (8, true), (9, true), (10, true), (11, true), (12, true), (13, true), (14, true), (15, true), (16, true), (17, true), (18, true), (19, true), (20, true), (21, true), (22, true), (23, true)] (by kernel_rfl) (by kernel_rfl) (by kernel_rfl) (by kernel_rfl) ⟨rg_cells (K.drew.get 2 rfl), cell_of_row _ _ 0 _ _ _ (K.drew.get 1 rfl)⟩ ?_
    simp only [List.map_cons, List.map_nil, List.getElem?_toArray, List.getElem?_cons_zero, List.getElem?_cons_succ]
    repeat (first | (refine Plan.take ?_ (by rfl) ?_ ?_; rotate_left; (· rintro w9 ⟨⟨u0, u1⟩, u2⟩; go_simp; (try rw [if_neg (by omega)]); all_goals (with_reducible rfl)); simp only [Act.put, List.setIfInBounds_toArray, List.set_cons_zero, List.set_cons_succ]) | (refine Plan.pass (by rfl) ?_; simp only [Act.put, List.setIfInBounds_toArray, List.set_cons_zero, List.set_cons_succ]))
    refine Plan.ends ?_
    have K9 := K.drew
    clear K
    have K := K9
    clear K9
    generalize World.drew _ = w2 at *
    obtain ⟨c0, c1⟩ := rg_cells (K.get 2 rfl)
    go_wp2_with fail
    refine LTree.start (fun W => (W.cell? ⟨w.heap.size, 0, none⟩ = some (.int .i64 d) ∧ W.cell? ⟨w.heap.size, 1, none⟩ = some (.slice a n c)) ∧ W.heap[w.heap.size + 1]? = some (.cells #[.int .i64 xs, .int .i64 xk, .int .i64 xb, .string xd] 28)) (.take 1 (.take 2 (.take 4 (.fork 0 (.fork 3 (.only 5 (.only 6 (.take 7 (.only 8 (.done))))) 5 (.only 3 (.only 6 (.take 7 (.only 8 (.done)))))) 5 (.only 0 (.only 3 (.only 6 (.take 7 (.only 8 (.done)))))))))) (by kernel_rfl) (by kernel_rfl) (by kernel_rfl) (by kernel_rfl) ⟨rg_cells (K.drew.get 2 rfl), K.drew.get 1 rfl⟩ ?_
    simp only [Tree.T.map, List.getElem?_toArray, List.getElem?_cons_zero, List.getElem?_cons_succ]
    have K9 := K.drew
    clear K
    have K := K9
    clear K9
    generalize hv0 : World.drew w2 = v3 at *
    clear hv0
    repeat (first | (refine LTree.take ?_ (by rfl) ?_ ?_; rotate_left; (· rintro w9 ⟨⟨u0, u1⟩, u2⟩; go_simp; (try rw [if_neg (by omega)]); all_goals (with_reducible rfl)); simp only [Act.put, List.setIfInBounds_toArray, List.set_cons_zero, List.set_cons_succ]))
    refine LTree.take_load 28 (.tmp 3) (w.heap.size + 1) _ (by rfl) rfl (by rfl) (fun w9 h9 => h9.2) Try.underlying28 rfl rq_info ?_
    simp only [Act.put, List.setIfInBounds_toArray, List.set_cons_zero, List.set_cons_succ]
    refine LTree.fork (by rfl) (by rfl) ?_ ?_
    · skip
      have K9 : Env w (v3.alloc (.cells #[] 28)) (Env.lst RQ (Env.slv v3.heap.size 0 0) 0 [] :: _) := K.empty RQ
      refine (Tree.wp_make (.slice (some ⟨v3.heap.size, 0, none⟩) 0 0) (v3.alloc (.cells #[] 28)) ?_ ⟨⟨rg_cells (K9.get 3 rfl), K9.get 2 rfl⟩, ?_⟩)
      · go_simp
      simp only [Act.put, List.setIfInBounds_toArray, List.set_cons_zero, List.set_cons_succ]
      clear K
      have K := K9
      clear K9
      generalize v3.heap.size = gA at *
      generalize v3.alloc (.cells #[] 28) = v4 at *
      refine LTree.fork (by rfl) (by rfl) ?_ ?_
      · skip
        refine (K.app_list rqOk (.tmp 44) (.tmp 46) rfl 0 rfl rfl rfl (HL.out _ K.hb) (by omega) ?_)
        intro gA cA v5 K9 _
        simp only [List.set, Nat.zero_add, List.nil_append] at K9
        refine ⟨⟨rg_cells (K9.get 3 rfl), K9.get 2 rfl⟩, ?_⟩
        simp only [Nat.zero_add, Act.put, List.setIfInBounds_toArray, List.set_cons_zero, List.set_cons_succ]
        clear K
        have K := K9
        clear K9
        have K9 := K.al (.cells #[.int .i64 xs, .int .i64 xk, .int .i64 xb, .string xd] 28 (0, 0))
        refine LTree.only (by rfl) (Tree.wp_make (.slice (some ⟨v5.heap.size, 0, none⟩) 1 1) (v5.alloc (.cells #[.int .i64 xs, .int .i64 xk, .int .i64 xb, .string xd] 28 (0, 0))) ?_ ⟨⟨rg_cells (K9.get 4 rfl), K9.get 3 rfl⟩, ?_⟩)
        · go_simp
        simp only [Act.put, List.setIfInBounds_toArray, List.set_cons_zero, List.set_cons_succ]
        clear K
        have K := K9
        clear K9
        generalize v5.heap.size = gB at *
        generalize v5.alloc (.cells #[.int .i64 xs, .int .i64 xk, .int .i64 xb, .string xd] 28 (0, 0)) = v6 at *
        refine LTree.only (by rfl) (K.app_one rqOk (.tmp 47) (.tmp 49) rfl 1 0 rfl rfl (e := ⟨xs, xk, xb, xd⟩) rfl rfl (by omega) ?_)
        intro gA cA v7 K9 _
        simp only [List.set] at K9
        refine ⟨⟨rg_cells (K9.get 4 rfl), K9.get 3 rfl⟩, ?_⟩
        simp only [Act.put, List.setIfInBounds_toArray, List.set_cons_zero, List.set_cons_succ]
        clear K
        have K := K9
        clear K9
        repeat (first | (refine LTree.take ?_ (by rfl) ?_ ?_; rotate_left; (· rintro w9 ⟨⟨u0, u1⟩, u2⟩; go_simp; (try rw [if_neg (by omega)]); all_goals (with_reducible rfl)); simp only [Act.put, List.setIfInBounds_toArray, List.set_cons_zero, List.set_cons_succ]))
        refine LTree.last (by rfl) (wp_store_slice_c 22 (.tmp 51) (.tmp 50) rfl w.heap.size 1 (some ⟨gA, 0, none⟩) (n + 1) cA rfl rfl ⟨_, (rg_cells (K.get 4 rfl)).2⟩ (free_row_c (K.get 4 rfl)) rqs_info1 ?_)
        rw [setCell_eq_setRow _ _ _ _ _ _ _ (K.get 4 rfl)]
        simp only [List.setIfInBounds_toArray, List.set_cons_zero, List.set_cons_succ]
        have K9 := K.put 4 rfl (cs' := #[.int .i64 d, .slice (some ⟨gA, 0, none⟩) (n + 1) cA]) rfl
        simp only [List.set] at K9
        generalize World.setRow v7 _ _ = v8 at *
        simp only [Act.put]
        clear K
        have K := K9
        clear K9
        go_wp2_with (first
          | ((with_reducible refine Plan.load_lit 24 (.tmp 2) (w.heap.size) ?_ (K.get 4 rfl) Try.underlying24 ?_ ?_ ?_); (· rfl); (· rfl); (· exact rg_info); simp only [Act.put, List.setIfInBounds_toArray, List.set_cons_zero, List.set_cons_succ])
          | ((with_reducible refine Plan.store_lit 24 (.tmp 4) _ (w.heap.size + 1 + 1) ?_ (K.get 2 rfl) ?_ ?_ ?_ ?_ ?_ ?_); rotate_left; (· rfl); (· rfl); (· exact rg_info); (· rfl); (· simp [Value.oneCell']); simp only [Act.put]))
        have K9 := K.put 2 rfl (cs' := #[.int .i64 d, .slice (some ⟨gA, 0, none⟩) (n + 1) cA]) rfl
        simp only [List.set] at K9
        exact bodyPost_ret (Plan.results_cell_tmp (p := 4) (q := 5) rfl _ _ _ _ _ _ _ rfl (K9.get 2 rfl) Try.underlying24 rfl rg_info) rfl ⟨_, _, _, rfl, (K9.list rqOk 1 rfl).mono (fun b _ h => .inr h), K9.hb⟩
      · skip
        have K9 := K.al (.cells #[.int .i64 xs, .int .i64 xk, .int .i64 xb, .string xd] 28 (0, 0))
        refine (Tree.wp_make (.slice (some ⟨v4.heap.size, 0, none⟩) 1 1) (v4.alloc (.cells #[.int .i64 xs, .int .i64 xk, .int .i64 xb, .string xd] 28 (0, 0))) ?_ ⟨⟨rg_cells (K9.get 4 rfl), K9.get 3 rfl⟩, ?_⟩)
        · go_simp
        simp only [Act.put, List.setIfInBounds_toArray, List.set_cons_zero, List.set_cons_succ]
        clear K
        have K := K9
        clear K9
        generalize v4.heap.size = gB at *
        generalize v4.alloc (.cells #[.int .i64 xs, .int .i64 xk, .int .i64 xb, .string xd] 28 (0, 0)) = v5 at *
        refine LTree.only (by rfl) (K.app_list rqOk (.tmp 44) (.tmp 46) rfl 1 rfl rfl rfl (HL.out _ K.hb) (by omega) ?_)
        intro gA cA v6 K9 _
        simp only [List.set, Nat.zero_add, List.nil_append] at K9
        refine ⟨⟨rg_cells (K9.get 4 rfl), K9.get 3 rfl⟩, ?_⟩
        simp only [Nat.zero_add, Act.put, List.setIfInBounds_toArray, List.set_cons_zero, List.set_cons_succ]
        clear K
        have K := K9
        clear K9
        refine LTree.only (by rfl) (K.app_one rqOk (.tmp 47) (.tmp 49) rfl 1 0 rfl rfl (e := ⟨xs, xk, xb, xd⟩) rfl rfl (by omega) ?_)
        intro gA cA v7 K9 _
        simp only [List.set] at K9
        refine ⟨⟨rg_cells (K9.get 4 rfl), K9.get 3 rfl⟩, ?_⟩
        simp only [Act.put, List.setIfInBounds_toArray, List.set_cons_zero, List.set_cons_succ]
        clear K
        have K := K9
        clear K9
        repeat (first | (refine LTree.take ?_ (by rfl) ?_ ?_; rotate_left; (· rintro w9 ⟨⟨u0, u1⟩, u2⟩; go_simp; (try rw [if_neg (by omega)]); all_goals (with_reducible rfl)); simp only [Act.put, List.setIfInBounds_toArray, List.set_cons_zero, List.set_cons_succ]))
        refine LTree.last (by rfl) (wp_store_slice_c 22 (.tmp 51) (.tmp 50) rfl w.heap.size 1 (some ⟨gA, 0, none⟩) (n + 1) cA rfl rfl ⟨_, (rg_cells (K.get 4 rfl)).2⟩ (free_row_c (K.get 4 rfl)) rqs_info1 ?_)
        rw [setCell_eq_setRow _ _ _ _ _ _ _ (K.get 4 rfl)]
        simp only [List.setIfInBounds_toArray, List.set_cons_zero, List.set_cons_succ]
        have K9 := K.put 4 rfl (cs' := #[.int .i64 d, .slice (some ⟨gA, 0, none⟩) (n + 1) cA]) rfl
        simp only [List.set] at K9
        generalize World.setRow v7 _ _ = v8 at *
        simp only [Act.put]
        clear K
        have K := K9
        clear K9
        go_wp2_with (first
          | ((with_reducible refine Plan.load_lit 24 (.tmp 2) (w.heap.size) ?_ (K.get 4 rfl) Try.underlying24 ?_ ?_ ?_); (· rfl); (· rfl); (· exact rg_info); simp only [Act.put, List.setIfInBounds_toArray, List.set_cons_zero, List.set_cons_succ])
          | ((with_reducible refine Plan.store_lit 24 (.tmp 4) _ (w.heap.size + 1 + 1) ?_ (K.get 2 rfl) ?_ ?_ ?_ ?_ ?_ ?_); rotate_left; (· rfl); (· rfl); (· exact rg_info); (· rfl); (· simp [Value.oneCell']); simp only [Act.put]))
        have K9 := K.put 2 rfl (cs' := #[.int .i64 d, .slice (some ⟨gA, 0, none⟩) (n + 1) cA]) rfl
        simp only [List.set] at K9
        exact bodyPost_ret (Plan.results_cell_tmp (p := 4) (q := 5) rfl _ _ _ _ _ _ _ rfl (K9.get 2 rfl) Try.underlying24 rfl rg_info) rfl ⟨_, _, _, rfl, (K9.list rqOk 1 rfl).mono (fun b _ h => .inr h), K9.hb⟩
    · skip
      have K9 := K.al (.cells #[.int .i64 xs, .int .i64 xk, .int .i64 xb, .string xd] 28 (0, 0))
      refine (Tree.wp_make (.slice (some ⟨v3.heap.size, 0, none⟩) 1 1) (v3.alloc (.cells #[.int .i64 xs, .int .i64 xk, .int .i64 xb, .string xd] 28 (0, 0))) ?_ ⟨⟨rg_cells (K9.get 3 rfl), K9.get 2 rfl⟩, ?_⟩)
      · go_simp
      simp only [Act.put, List.setIfInBounds_toArray, List.set_cons_zero, List.set_cons_succ]
      clear K
      have K := K9
      clear K9
      generalize v3.heap.size = gB at *
      generalize v3.alloc (.cells #[.int .i64 xs, .int .i64 xk, .int .i64 xb, .string xd] 28 (0, 0)) = v4 at *
      have K9 : Env w (v4.alloc (.cells #[] 28)) (Env.lst RQ (Env.slv v4.heap.size 0 0) 0 [] :: _) := K.empty RQ
      refine LTree.only (by rfl) (Tree.wp_make (.slice (some ⟨v4.heap.size, 0, none⟩) 0 0) (v4.alloc (.cells #[] 28)) ?_ ⟨⟨rg_cells (K9.get 4 rfl), K9.get 3 rfl⟩, ?_⟩)
      · go_simp
      simp only [Act.put, List.setIfInBounds_toArray, List.set_cons_zero, List.set_cons_succ]
      clear K
      have K := K9
      clear K9
      generalize v4.heap.size = gA at *
      generalize v4.alloc (.cells #[] 28) = v5 at *
      refine LTree.only (by rfl) (K.app_list rqOk (.tmp 44) (.tmp 46) rfl 0 rfl rfl rfl (HL.out _ K.hb) (by omega) ?_)
      intro gA cA v6 K9 _
      simp only [List.set, Nat.zero_add, List.nil_append] at K9
      refine ⟨⟨rg_cells (K9.get 4 rfl), K9.get 3 rfl⟩, ?_⟩
      simp only [Nat.zero_add, Act.put, List.setIfInBounds_toArray, List.set_cons_zero, List.set_cons_succ]
      clear K
      have K := K9
      clear K9
      refine LTree.only (by rfl) (K.app_one rqOk (.tmp 47) (.tmp 49) rfl 0 1 rfl rfl (e := ⟨xs, xk, xb, xd⟩) rfl rfl (by omega) ?_)
      intro gA cA v7 K9 _
      simp only [List.set] at K9
      refine ⟨⟨rg_cells (K9.get 4 rfl), K9.get 3 rfl⟩, ?_⟩
      simp only [Act.put, List.setIfInBounds_toArray, List.set_cons_zero, List.set_cons_succ]
      clear K
      have K := K9
      clear K9
      repeat (first | (refine LTree.take ?_ (by rfl) ?_ ?_; rotate_left; (· rintro w9 ⟨⟨u0, u1⟩, u2⟩; go_simp; (try rw [if_neg (by omega)]); all_goals (with_reducible rfl)); simp only [Act.put, List.setIfInBounds_toArray, List.set_cons_zero, List.set_cons_succ]))
      refine LTree.last (by rfl) (wp_store_slice_c 22 (.tmp 51) (.tmp 50) rfl w.heap.size 1 (some ⟨gA, 0, none⟩) (n + 1) cA rfl rfl ⟨_, (rg_cells (K.get 4 rfl)).2⟩ (free_row_c (K.get 4 rfl)) rqs_info1 ?_)
      rw [setCell_eq_setRow _ _ _ _ _ _ _ (K.get 4 rfl)]
      simp only [List.setIfInBounds_toArray, List.set_cons_zero, List.set_cons_succ]
      have K9 := K.put 4 rfl (cs' := #[.int .i64 d, .slice (some ⟨gA, 0, none⟩) (n + 1) cA]) rfl
      simp only [List.set] at K9
      generalize World.setRow v7 _ _ = v8 at *
      simp only [Act.put]
      clear K
      have K := K9
      clear K9
      go_wp2_with (first
        | ((with_reducible refine Plan.load_lit 24 (.tmp 2) (w.heap.size) ?_ (K.get 4 rfl) Try.underlying24 ?_ ?_ ?_); (· rfl); (· rfl); (· exact rg_info); simp only [Act.put, List.setIfInBounds_toArray, List.set_cons_zero, List.set_cons_succ])
        | ((with_reducible refine Plan.store_lit 24 (.tmp 4) _ (w.heap.size + 1 + 1) ?_ (K.get 2 rfl) ?_ ?_ ?_ ?_ ?_ ?_); rotate_left; (· rfl); (· rfl); (· exact rg_info); (· rfl); (· simp [Value.oneCell']); simp only [Act.put]))
      have K9 := K.put 2 rfl (cs' := #[.int .i64 d, .slice (some ⟨gA, 0, none⟩) (n + 1) cA]) rfl
      simp only [List.set] at K9
      exact bodyPost_ret (Plan.results_cell_tmp (p := 4) (q := 5) rfl _ _ _ _ _ _ _ rfl (K9.get 2 rfl) Try.underlying24 rfl rg_info) rfl ⟨_, _, _, rfl, (K9.list rqOk 0 rfl).mono (fun b _ h => .inr h), K9.hb⟩
  obtain ⟨j, hj⟩ : ∃ j, n = j + 1 := ⟨n - 1, by omega⟩
  obtain ⟨xa, y, ha, hy, _⟩ := HAT.out w (Below.refl _ _) (n - 1) (by omega)
  subst ha
  have hc : RowKit.Hid (∀ W, Below w.heap.size w W → W.cell? (xa.add ((n - 1) * 4)) = some (.int .i64 y.serial)) := Lib.hid (fun W h => by
    obtain ⟨x2, y2, h1, h2, h3⟩ := HAT.out W h (n - 1) (by omega)
    obtain rfl := Option.some.inj h1
    rw [hy] at h2
    obtain rfl := Option.some.inj h2
    exact h3)
  have e1 := sub_next hva hd hs (by rw [hlen]; exact hy)
  have hj1 : IntKind.i64.wrap ((n : Int) - 1) = ((n - 1 : Nat) : Int) := by rw [IntWalk.i64_in _ (by omega)]; omega
  have hnI : (0 : Int) < (n : Int) := by omega
  have hn1 : n - 1 < n := by omega
  have t3 : decide (0 < n) = true := by simp; omega
  have t4 : decide ((0 : Int) < (n : Int)) = true := by simp; omega
  generalize hJ : n - 1 = J at *
  have hJI : (J : Int) < (n : Int) := by omega
  generalize hys : y.serial = ys at *
  by_cases hq : xs ≤ ys
  · rw [if_pos hq] at e1
    have t2 : decide (xs ≤ ys) = true := decide_eq_true hq
    rw [sub_stay (x := ⟨xs, xk, xb, xd⟩) e1 (by decide), e1]
    clear hl e1 hva HAT HL hd hy hys hj hJ hn
    go_enter Try.func13, Try.ntmps13
    generalize hw0 : ((w.alloc (rgRow d (some xa) n c)).alloc (.cells #[.int .i64 xs, .int .i64 xk, .int .i64 xb, .string xd] 28)).alloc (rgRow 0 none 0 0) = w0 at *

    go_upto_region 5 with (first
      | ((with_reducible refine Plan.load_lit 24 (.tmp 2) (w.heap.size) ?_ (K.get 2 rfl) Try.underlying24 ?_ ?_ ?_); (· rfl); (· rfl); (· exact rg_info); simp only [Act.put, List.setIfInBounds_toArray, List.set_cons_zero, List.set_cons_succ])
      | (go_at_call 16; ((with_reducible refine (HV.out _ K.hb).mono ?_); rintro r9 w1 ⟨rfl, h1⟩; have K1 := K.on h1; clear K h1 hw0; have K := K1; clear K1; obtain ⟨c0, c1⟩ := rg_cells (K.get 2 rfl))))
    refine Plan.start (fun W => ((W.cell? ⟨w.heap.size, 0, none⟩ = some (.int .i64 d) ∧ W.cell? ⟨w.heap.size, 1, none⟩ = some (.slice (some xa) n c)) ∧ W.cell? ⟨w.heap.size + 1, 0, none⟩ = some (.int .i64 xs)) ∧ W.cell? (xa.add (J * 4)) = some (.int .i64 ys)) [(0, true), (1, true), (2, true), (3, true), (4, true), (5, true), (6, true), (7, true), (8, true), (9, true), (10, true), (11, true), (12, true), (13, true), (14, true), (15, true), (16, true), (17, true), (18, true), (19, true), (20, true), (21, true), (22, true), (23, true)] (by kernel_rfl) (by kernel_rfl) (by kernel_rfl) (by kernel_rfl) ⟨⟨rg_cells (K.drew.get 2 rfl), cell_of_row _ _ 0 _ _ _ (K.drew.get 1 rfl)⟩, hc.out _ K.drew.hb⟩ ?_
    simp only [List.map_cons, List.map_nil, List.getElem?_toArray, List.getElem?_cons_zero, List.getElem?_cons_succ]
    repeat (first | (refine Plan.take ?_ (by rfl) ?_ ?_; rotate_left; (· rintro w9 ⟨⟨⟨u0, u1⟩, u2⟩, u3⟩; go_simp; (try rw [if_neg (by omega)]); all_goals (with_reducible rfl)); simp only [Act.put, List.setIfInBounds_toArray, List.set_cons_zero, List.set_cons_succ]) | (refine Plan.pass (by rfl) ?_; simp only [Act.put, List.setIfInBounds_toArray, List.set_cons_zero, List.set_cons_succ]))
    refine Plan.ends ?_
    have K9 := K.drew
    clear K
    have K := K9
    clear K9
    generalize World.drew _ = w2 at *
    obtain ⟨c0, c1⟩ := rg_cells (K.get 2 rfl)
    go_wp2_with (first
      | ((with_reducible refine Plan.load_lit 24 (.tmp 2) (w.heap.size) ?_ (K.get 2 rfl) Try.underlying24 ?_ ?_ ?_); (· rfl); (· rfl); (· exact rg_info); simp only [Act.put, List.setIfInBounds_toArray, List.set_cons_zero, List.set_cons_succ])
      | ((with_reducible refine Plan.store_lit 24 (.tmp 4) _ (w.heap.size + 1 + 1) ?_ (K.get 0 rfl) ?_ ?_ ?_ ?_ ?_ ?_); rotate_left; (· rfl); (· rfl); (· exact rg_info); (· rfl); (· simp [Value.oneCell']); simp only [Act.put]))
    have K9 := K.put 0 rfl (cs' := #[.int .i64 d, .slice (some xa) (n) (c)]) rfl
    exact bodyPost_ret (Plan.results_cell_tmp (p := 4) (q := 5) rfl _ _ _ _ _ _ _ rfl (K9.get 0 rfl) Try.underlying24 rfl rg_info) rfl ⟨_, _, _, rfl, HEND.out _ K9.hb, K9.hb⟩
  · rw [if_neg hq] at e1
    have t2 : decide (xs ≤ ys) = false := decide_eq_false hq
    rw [sub_go (x := ⟨xs, xk, xb, xd⟩) e1, e1]
    clear e1 hva HAT hd hy hys hj hJ hn HEND hl
    go_enter Try.func13, Try.ntmps13
    generalize hw0 : ((w.alloc (rgRow d (some xa) n c)).alloc (.cells #[.int .i64 xs, .int .i64 xk, .int .i64 xb, .string xd] 28)).alloc (rgRow 0 none 0 0) = w0 at *

    go_upto_region 5 with (first
      | ((with_reducible refine Plan.load_lit 24 (.tmp 2) (w.heap.size) ?_ (K.get 2 rfl) Try.underlying24 ?_ ?_ ?_); (· rfl); (· rfl); (· exact rg_info); simp only [Act.put, List.setIfInBounds_toArray, List.set_cons_zero, List.set_cons_succ])
      | (go_at_call 16; ((with_reducible refine (HV.out _ K.hb).mono ?_); rintro r9 w1 ⟨rfl, h1⟩; have K1 := K.on h1; clear K h1 hw0; have K := K1; clear K1; obtain ⟨c0, c1⟩ := rg_cells (K.get 2 rfl))))
    refine Plan.start (fun W => ((W.cell? ⟨w.heap.size, 0, none⟩ = some (.int .i64 d) ∧ W.cell? ⟨w.heap.size, 1, none⟩ = some (.slice (some xa) n c)) ∧ W.cell? ⟨w.heap.size + 1, 0, none⟩ = some (.int .i64 xs)) ∧ W.cell? (xa.add (J * 4)) = some (.int .i64 ys)) [(0, true), (1, true), (2, true), (3, true), (4, true), (5, true), (6, true), (7, true), (8, true), (9, true), (10, true), (11, true), (12, true), (13, true), (14, true), (15, true), (16, true), (17, true), (18, true), (19, true), (20, true), (21, true), (22, true), (23, true)] (by kernel_rfl) (by kernel_rfl) (by kernel_rfl) (by kernel_rfl) ⟨⟨rg_cells (K.drew.get 2 rfl), cell_of_row _ _ 0 _ _ _ (K.drew.get 1 rfl)⟩, hc.out _ K.drew.hb⟩ ?_
    simp only [List.map_cons, List.map_nil, List.getElem?_toArray, List.getElem?_cons_zero, List.getElem?_cons_succ]
    repeat (first | (refine Plan.take ?_ (by rfl) ?_ ?_; rotate_left; (· rintro w9 ⟨⟨⟨u0, u1⟩, u2⟩, u3⟩; go_simp; (try rw [if_neg (by omega)]); all_goals (with_reducible rfl)); simp only [Act.put, List.setIfInBounds_toArray, List.set_cons_zero, List.set_cons_succ]) | (refine Plan.pass (by rfl) ?_; simp only [Act.put, List.setIfInBounds_toArray, List.set_cons_zero, List.set_cons_succ]))
    refine Plan.ends ?_
    have K9 := K.drew
    clear K
    have K := K9
    clear K9
    generalize World.drew _ = w2 at *
    obtain ⟨c0, c1⟩ := rg_cells (K.get 2 rfl)
    go_wp2_with fail
    refine LTree.start (fun W => (W.cell? ⟨w.heap.size, 0, none⟩ = some (.int .i64 d) ∧ W.cell? ⟨w.heap.size, 1, none⟩ = some (.slice (some xa) n c)) ∧ W.heap[w.heap.size + 1]? = some (.cells #[.int .i64 xs, .int .i64 xk, .int .i64 xb, .string xd] 28)) (.take 1 (.take 2 (.take 4 (.fork 0 (.fork 3 (.only 5 (.only 6 (.take 7 (.only 8 (.done))))) 5 (.only 3 (.only 6 (.take 7 (.only 8 (.done)))))) 5 (.only 0 (.only 3 (.only 6 (.take 7 (.only 8 (.done)))))))))) (by kernel_rfl) (by kernel_rfl) (by kernel_rfl) (by kernel_rfl) ⟨rg_cells (K.drew.get 2 rfl), K.drew.get 1 rfl⟩ ?_
    simp only [Tree.T.map, List.getElem?_toArray, List.getElem?_cons_zero, List.getElem?_cons_succ]
    have K9 := K.drew
    clear K
    have K := K9
    clear K9
    generalize hv0 : World.drew w2 = v3 at *
    clear hv0
    repeat (first | (refine LTree.take ?_ (by rfl) ?_ ?_; rotate_left; (· rintro w9 ⟨⟨u0, u1⟩, u2⟩; go_simp; (try rw [if_neg (by omega)]); all_goals (with_reducible rfl)); simp only [Act.put, List.setIfInBounds_toArray, List.set_cons_zero, List.set_cons_succ]))
    refine LTree.take_load 28 (.tmp 3) (w.heap.size + 1) _ (by rfl) rfl (by rfl) (fun w9 h9 => h9.2) Try.underlying28 rfl rq_info ?_
    simp only [Act.put, List.setIfInBounds_toArray, List.set_cons_zero, List.set_cons_succ]
    refine LTree.fork (by rfl) (by rfl) ?_ ?_
    · skip
      have K9 : Env w (v3.alloc (.cells #[] 28)) (Env.lst RQ (Env.slv v3.heap.size 0 0) 0 [] :: _) := K.empty RQ
      refine (Tree.wp_make (.slice (some ⟨v3.heap.size, 0, none⟩) 0 0) (v3.alloc (.cells #[] 28)) ?_ ⟨⟨rg_cells (K9.get 3 rfl), K9.get 2 rfl⟩, ?_⟩)
      · go_simp
      simp only [Act.put, List.setIfInBounds_toArray, List.set_cons_zero, List.set_cons_succ]
      clear K
      have K := K9
      clear K9
      generalize v3.heap.size = gA at *
      generalize v3.alloc (.cells #[] 28) = v4 at *
      refine LTree.fork (by rfl) (by rfl) ?_ ?_
      · skip
        refine (K.app_list rqOk (.tmp 44) (.tmp 46) rfl 0 rfl rfl rfl (HL.out _ K.hb) (by omega) ?_)
        intro gA cA v5 K9 _
        simp only [List.set, Nat.zero_add, List.nil_append] at K9
        refine ⟨⟨rg_cells (K9.get 3 rfl), K9.get 2 rfl⟩, ?_⟩
        simp only [Nat.zero_add, Act.put, List.setIfInBounds_toArray, List.set_cons_zero, List.set_cons_succ]
        clear K
        have K := K9
        clear K9
        have K9 := K.al (.cells #[.int .i64 xs, .int .i64 xk, .int .i64 xb, .string xd] 28 (0, 0))
        refine LTree.only (by rfl) (Tree.wp_make (.slice (some ⟨v5.heap.size, 0, none⟩) 1 1) (v5.alloc (.cells #[.int .i64 xs, .int .i64 xk, .int .i64 xb, .string xd] 28 (0, 0))) ?_ ⟨⟨rg_cells (K9.get 4 rfl), K9.get 3 rfl⟩, ?_⟩)
        · go_simp
        simp only [Act.put, List.setIfInBounds_toArray, List.set_cons_zero, List.set_cons_succ]
        clear K
        have K := K9
        clear K9
        generalize v5.heap.size = gB at *
        generalize v5.alloc (.cells #[.int .i64 xs, .int .i64 xk, .int .i64 xb, .string xd] 28 (0, 0)) = v6 at *
        refine LTree.only (by rfl) (K.app_one rqOk (.tmp 47) (.tmp 49) rfl 1 0 rfl rfl (e := ⟨xs, xk, xb, xd⟩) rfl rfl (by omega) ?_)
        intro gA cA v7 K9 _
        simp only [List.set] at K9
        refine ⟨⟨rg_cells (K9.get 4 rfl), K9.get 3 rfl⟩, ?_⟩
        simp only [Act.put, List.setIfInBounds_toArray, List.set_cons_zero, List.set_cons_succ]
        clear K
        have K := K9
        clear K9
        repeat (first | (refine LTree.take ?_ (by rfl) ?_ ?_; rotate_left; (· rintro w9 ⟨⟨u0, u1⟩, u2⟩; go_simp; (try rw [if_neg (by omega)]); all_goals (with_reducible rfl)); simp only [Act.put, List.setIfInBounds_toArray, List.set_cons_zero, List.set_cons_succ]))
        refine LTree.last (by rfl) (wp_store_slice_c 22 (.tmp 51) (.tmp 50) rfl w.heap.size 1 (some ⟨gA, 0, none⟩) (n + 1) cA rfl rfl ⟨_, (rg_cells (K.get 4 rfl)).2⟩ (free_row_c (K.get 4 rfl)) rqs_info1 ?_)
        rw [setCell_eq_setRow _ _ _ _ _ _ _ (K.get 4 rfl)]
        simp only [List.setIfInBounds_toArray, List.set_cons_zero, List.set_cons_succ]
        have K9 := K.put 4 rfl (cs' := #[.int .i64 d, .slice (some ⟨gA, 0, none⟩) (n + 1) cA]) rfl
        simp only [List.set] at K9
        generalize World.setRow v7 _ _ = v8 at *
        simp only [Act.put]
        clear K
        have K := K9
        clear K9
        go_wp2_with (first
          | ((with_reducible refine Plan.load_lit 24 (.tmp 2) (w.heap.size) ?_ (K.get 4 rfl) Try.underlying24 ?_ ?_ ?_); (· rfl); (· rfl); (· exact rg_info); simp only [Act.put, List.setIfInBounds_toArray, List.set_cons_zero, List.set_cons_succ])
          | ((with_reducible refine Plan.store_lit 24 (.tmp 4) _ (w.heap.size + 1 + 1) ?_ (K.get 2 rfl) ?_ ?_ ?_ ?_ ?_ ?_); rotate_left; (· rfl); (· rfl); (· exact rg_info); (· rfl); (· simp [Value.oneCell']); simp only [Act.put]))
        have K9 := K.put 2 rfl (cs' := #[.int .i64 d, .slice (some ⟨gA, 0, none⟩) (n + 1) cA]) rfl
        simp only [List.set] at K9
        exact bodyPost_ret (Plan.results_cell_tmp (p := 4) (q := 5) rfl _ _ _ _ _ _ _ rfl (K9.get 2 rfl) Try.underlying24 rfl rg_info) rfl ⟨_, _, _, rfl, (K9.list rqOk 1 rfl).mono (fun b _ h => .inr h), K9.hb⟩
      · skip
        have K9 := K.al (.cells #[.int .i64 xs, .int .i64 xk, .int .i64 xb, .string xd] 28 (0, 0))
        refine (Tree.wp_make (.slice (some ⟨v4.heap.size, 0, none⟩) 1 1) (v4.alloc (.cells #[.int .i64 xs, .int .i64 xk, .int .i64 xb, .string xd] 28 (0, 0))) ?_ ⟨⟨rg_cells (K9.get 4 rfl), K9.get 3 rfl⟩, ?_⟩)
        · go_simp
        simp only [Act.put, List.setIfInBounds_toArray, List.set_cons_zero, List.set_cons_succ]
        clear K
        have K := K9
        clear K9
        generalize v4.heap.size = gB at *
        generalize v4.alloc (.cells #[.int .i64 xs, .int .i64 xk, .int .i64 xb, .string xd] 28 (0, 0)) = v5 at *
        refine LTree.only (by rfl) (K.app_list rqOk (.tmp 44) (.tmp 46) rfl 1 rfl rfl rfl (HL.out _ K.hb) (by omega) ?_)
        intro gA cA v6 K9 _
        simp only [List.set, Nat.zero_add, List.nil_append] at K9
        refine ⟨⟨rg_cells (K9.get 4 rfl), K9.get 3 rfl⟩, ?_⟩
        simp only [Nat.zero_add, Act.put, List.setIfInBounds_toArray, List.set_cons_zero, List.set_cons_succ]
        clear K
        have K := K9
        clear K9
        refine LTree.only (by rfl) (K.app_one rqOk (.tmp 47) (.tmp 49) rfl 1 0 rfl rfl (e := ⟨xs, xk, xb, xd⟩) rfl rfl (by omega) ?_)
        intro gA cA v7 K9 _
        simp only [List.set] at K9
        refine ⟨⟨rg_cells (K9.get 4 rfl), K9.get 3 rfl⟩, ?_⟩
        simp only [Act.put, List.setIfInBounds_toArray, List.set_cons_zero, List.set_cons_succ]
        clear K
        have K := K9
        clear K9
        repeat (first | (refine LTree.take ?_ (by rfl) ?_ ?_; rotate_left; (· rintro w9 ⟨⟨u0, u1⟩, u2⟩; go_simp; (try rw [if_neg (by omega)]); all_goals (with_reducible rfl)); simp only [Act.put, List.setIfInBounds_toArray, List.set_cons_zero, List.set_cons_succ]))
        refine LTree.last (by rfl) (wp_store_slice_c 22 (.tmp 51) (.tmp 50) rfl w.heap.size 1 (some ⟨gA, 0, none⟩) (n + 1) cA rfl rfl ⟨_, (rg_cells (K.get 4 rfl)).2⟩ (free_row_c (K.get 4 rfl)) rqs_info1 ?_)
        rw [setCell_eq_setRow _ _ _ _ _ _ _ (K.get 4 rfl)]
        simp only [List.setIfInBounds_toArray, List.set_cons_zero, List.set_cons_succ]
        have K9 := K.put 4 rfl (cs' := #[.int .i64 d, .slice (some ⟨gA, 0, none⟩) (n + 1) cA]) rfl
        simp only [List.set] at K9
        generalize World.setRow v7 _ _ = v8 at *
        simp only [Act.put]
        clear K
        have K := K9
        clear K9
        go_wp2_with (first
          | ((with_reducible refine Plan.load_lit 24 (.tmp 2) (w.heap.size) ?_ (K.get 4 rfl) Try.underlying24 ?_ ?_ ?_); (· rfl); (· rfl); (· exact rg_info); simp only [Act.put, List.setIfInBounds_toArray, List.set_cons_zero, List.set_cons_succ])
          | ((with_reducible refine Plan.store_lit 24 (.tmp 4) _ (w.heap.size + 1 + 1) ?_ (K.get 2 rfl) ?_ ?_ ?_ ?_ ?_ ?_); rotate_left; (· rfl); (· rfl); (· exact rg_info); (· rfl); (· simp [Value.oneCell']); simp only [Act.put]))
        have K9 := K.put 2 rfl (cs' := #[.int .i64 d, .slice (some ⟨gA, 0, none⟩) (n + 1) cA]) rfl
        simp only [List.set] at K9
        exact bodyPost_ret (Plan.results_cell_tmp (p := 4) (q := 5) rfl _ _ _ _ _ _ _ rfl (K9.get 2 rfl) Try.underlying24 rfl rg_info) rfl ⟨_, _, _, rfl, (K9.list rqOk 1 rfl).mono (fun b _ h => .inr h), K9.hb⟩
    · skip
      have K9 := K.al (.cells #[.int .i64 xs, .int .i64 xk, .int .i64 xb, .string xd] 28 (0, 0))
      refine (Tree.wp_make (.slice (some ⟨v3.heap.size, 0, none⟩) 1 1) (v3.alloc (.cells #[.int .i64 xs, .int .i64 xk, .int .i64 xb, .string xd] 28 (0, 0))) ?_ ⟨⟨rg_cells (K9.get 3 rfl), K9.get 2 rfl⟩, ?_⟩)
      · go_simp
      simp only [Act.put, List.setIfInBounds_toArray, List.set_cons_zero, List.set_cons_succ]
      clear K
      have K := K9
      clear K9
      generalize v3.heap.size = gB at *
      generalize v3.alloc (.cells #[.int .i64 xs, .int .i64 xk, .int .i64 xb, .string xd] 28 (0, 0)) = v4 at *
      have K9 : Env w (v4.alloc (.cells #[] 28)) (Env.lst RQ (Env.slv v4.heap.size 0 0) 0 [] :: _) := K.empty RQ
      refine LTree.only (by rfl) (Tree.wp_make (.slice (some ⟨v4.heap.size, 0, none⟩) 0 0) (v4.alloc (.cells #[] 28)) ?_ ⟨⟨rg_cells (K9.get 4 rfl), K9.get 3 rfl⟩, ?_⟩)
      · go_simp
      simp only [Act.put, List.setIfInBounds_toArray, List.set_cons_zero, List.set_cons_succ]
      clear K
      have K := K9
      clear K9
      generalize v4.heap.size = gA at *
      generalize v4.alloc (.cells #[] 28) = v5 at *
      refine LTree.only (by rfl) (K.app_list rqOk (.tmp 44) (.tmp 46) rfl 0 rfl rfl rfl (HL.out _ K.hb) (by omega) ?_)
      intro gA cA v6 K9 _
      simp only [List.set, Nat.zero_add, List.nil_append] at K9
      refine ⟨⟨rg_cells (K9.get 4 rfl), K9.get 3 rfl⟩, ?_⟩
      simp only [Nat.zero_add, Act.put, List.setIfInBounds_toArray, List.set_cons_zero, List.set_cons_succ]
      clear K
      have K := K9
      clear K9
      refine LTree.only (by rfl) (K.app_one rqOk (.tmp 47) (.tmp 49) rfl 0 1 rfl rfl (e := ⟨xs, xk, xb, xd⟩) rfl rfl (by omega) ?_)
      intro gA cA v7 K9 _
      simp only [List.set] at K9
      refine ⟨⟨rg_cells (K9.get 4 rfl), K9.get 3 rfl⟩, ?_⟩
      simp only [Act.put, List.setIfInBounds_toArray, List.set_cons_zero, List.set_cons_succ]
      clear K
      have K := K9
      clear K9
      repeat (first | (refine LTree.take ?_ (by rfl) ?_ ?_; rotate_left; (· rintro w9 ⟨⟨u0, u1⟩, u2⟩; go_simp; (try rw [if_neg (by omega)]); all_goals (with_reducible rfl)); simp only [Act.put, List.setIfInBounds_toArray, List.set_cons_zero, List.set_cons_succ]))
      refine LTree.last (by rfl) (wp_store_slice_c 22 (.tmp 51) (.tmp 50) rfl w.heap.size 1 (some ⟨gA, 0, none⟩) (n + 1) cA rfl rfl ⟨_, (rg_cells (K.get 4 rfl)).2⟩ (free_row_c (K.get 4 rfl)) rqs_info1 ?_)
      rw [setCell_eq_setRow _ _ _ _ _ _ _ (K.get 4 rfl)]
      simp only [List.setIfInBounds_toArray, List.set_cons_zero, List.set_cons_succ]
      have K9 := K.put 4 rfl (cs' := #[.int .i64 d, .slice (some ⟨gA, 0, none⟩) (n + 1) cA]) rfl
      simp only [List.set] at K9
      generalize World.setRow v7 _ _ = v8 at *
      simp only [Act.put]
      clear K
      have K := K9
      clear K9
      go_wp2_with (first
        | ((with_reducible refine Plan.load_lit 24 (.tmp 2) (w.heap.size) ?_ (K.get 4 rfl) Try.underlying24 ?_ ?_ ?_); (· rfl); (· rfl); (· exact rg_info); simp only [Act.put, List.setIfInBounds_toArray, List.set_cons_zero, List.set_cons_succ])
        | ((with_reducible refine Plan.store_lit 24 (.tmp 4) _ (w.heap.size + 1 + 1) ?_ (K.get 2 rfl) ?_ ?_ ?_ ?_ ?_ ?_); rotate_left; (· rfl); (· rfl); (· exact rg_info); (· rfl); (· simp [Value.oneCell']); simp only [Act.put]))
      have K9 := K.put 2 rfl (cs' := #[.int .i64 d, .slice (some ⟨gA, 0, none⟩) (n + 1) cA]) rfl
      simp only [List.set] at K9
      exact bodyPost_ret (Plan.results_cell_tmp (p := 4) (q := 5) rfl _ _ _ _ _ _ _ rfl (K9.get 2 rfl) Try.underlying24 rfl rg_info) rfl ⟨_, _, _, rfl, (K9.list rqOk 0 rfl).mono (fun b _ h => .inr h), K9.hb⟩
end Go.Proofs.Ytljdepnhhngbeaa.Ents
