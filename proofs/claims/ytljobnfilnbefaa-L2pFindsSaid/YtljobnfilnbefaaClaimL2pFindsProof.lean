/- L2pFinds: the program's map finds for each block the entry that was installed last with a greater version, and nothing for blocks of which none was installed. No condition. -/
import Derived.Test.YtljobnfilnbefaaPack9
import Derived.Test.YtljobnfilnbefaaRows
import Derived.Deep.DeepCutAuto
import Derived.Deep.OwnRows
import Derived.WalkKit
import Derived.ProofKit
import Derived.SliceStrings
import Derived.OpenShut
import Derived.ShutString
import Derived.ChangeOld
import Derived.Carry
import Derived.Below

/- The walk of the program's Lookup of a map. -/
namespace Go.Proofs.Ytljobnfilnbefaa.Ents
open Go.RowKit Plan EntMath
theorem part_stripe (Ls : List (List Ent)) (b : Int) : partB Ls (stripe Ls b) = (validM Ls && decide (0 ≤ b)) := by
  unfold partB
  cases hv : validM Ls
  · rfl
  · have h1 := (validM_iff.1 hv).1
    by_cases hb : 0 ≤ b
    · rw [stripe_eq hv hb, decide_eq_true hb, decide_eq_true (show 0 ≤ (st Ls b : Int) by omega), decide_eq_true (show (st Ls b : Int) < (Ls.length : Int) by have := st_lt hv b; omega)]
      rfl
    · have : stripe Ls b = -1 := by unfold stripe; rw [if_pos (by omega)]
      rw [this, decide_eq_false hb]
      rfl
set_option maxHeartbeats 8000000 in
set_option maxRecDepth 20000 in
theorem mlookup_any (F : Nat → Prop) (Ls : List (List Ent)) (b : Int) (a : Option Addr) (n c : Nat) (w : World) (hl : MList w F a n c Ls) (hm : Near Ls) :
    Calls Try.prog 22 #[mapV a n c, .int .i64 b] w fun r w' => r = .returned (lookV Ls b) ∧ Below w.heap.size w w' := by
  have hlen := hl.length
  have hb0 := ((Below.refl w.heap.size w).alloc (Nat.le_refl _) (mapRow a n c)).alloc (by simp) (entRow 0 0 0 0 0 0)
  have hr0 := heap_second w (mapRow a n c) (entRow 0 0 0 0 0 0)
  have hx0 := heap_first w (mapRow a n c) (entRow 0 0 0 0 0 0)
  have HS := Lib.hid (fun W (h : Below w.heap.size w W) => stripe_any _ Ls b a n c W (hl.same h))
  have HP := Lib.hid (fun W (h : Below w.heap.size w W) => partOf_any _ Ls (stripe Ls b) a n c W (hl.same h))
  rw [part_stripe] at HP
  have hcases : ((validM Ls && decide (0 ≤ b)) = false ∧ lookV Ls b = .tuple #[.agg #[.int .i64 0, .int .i64 0, .int .i64 0, .int .i64 0, .int .i64 0, .int .i64 0], .bool false]) ∨ ((validM Ls && decide (0 ≤ b)) = true ∧ validM Ls = true ∧ 0 ≤ b) := by
    cases hg : (validM Ls && decide (0 ≤ b))
    · refine .inl ⟨rfl, lookV_no fun h => ?_⟩
      rw [h.1, decide_eq_true h.2] at hg
      cases hg
    · rw [Bool.and_eq_true, decide_eq_true_eq] at hg
      exact .inr ⟨rfl, hg⟩
  rcases hcases with ⟨hg, hv⟩ | ⟨hg, hva, h0⟩
  · have H1 := Lib.hid hv
    clear hv
    generalize lookV Ls b = V at *
    rw [hg] at HP
    generalize hST : stripe Ls b = ST at *
    clear hST hg hl hm
    have c0 := Below.refl ((w.alloc (mapRow a n c)).alloc (entRow 0 0 0 0 0 0)).heap.size ((w.alloc (mapRow a n c)).alloc (entRow 0 0 0 0 0 0))
    go_enter Try.func22, Try.ntmps22
    generalize hw0 : (w.alloc (mapRow a n c)).alloc (entRow 0 0 0 0 0 0) = w0 at *
    go_upto_region 1 with fail
    go_cut [6, 7] (fun s6 s7 wx => ∃ g : Nat, s6 = .pointer (some ⟨g, 0, none⟩) ∧ s7 = .bool false ∧ w0.heap.size ≤ g ∧ wx.heap[g]? = some (partRow a n c ST) ∧ Below w0.heap.size w0 wx)
    case first =>
      refine Tree.start (fun W => W.cell? ⟨w.heap.size, 0, none⟩ = some (.slice a n c)) (.take 0 (.take 1 (.take 2 (.fork 3 (.fork 4 (.take 5 (.take 6 (.take 7 (.only 8 (.only 9 (.take 10 (.done))))))) 8 (.only 4 (.take 5 (.take 6 (.take 7 (.only 9 (.take 10 (.done)))))))) 8 (.only 3 (.only 4 (.take 5 (.take 6 (.take 7 (.only 9 (.take 10 (.done)))))))))))) (by kernel_rfl) (by kernel_rfl) (by kernel_rfl) (by kernel_rfl) (map_row (e_on (c0.drew) hx0 (e_lt hx0))) ?_
      simp only [Tree.T.map, List.getElem?_toArray, List.getElem?_cons_zero, List.getElem?_cons_succ]
      repeat (first | (refine Tree.take ?_ (by rfl) ?_ ?_; rotate_left; (· rintro w9 u0; go_simp; (try rw [if_neg (by omega)]); all_goals (with_reducible rfl)); simp only [Act.put, List.setIfInBounds_toArray, List.set_cons_zero, List.set_cons_succ]))
      have c9 := c0.drew
      refine Tree.fork (by rfl) (by rfl) ?_ ?_
      · refine Tree.wp_call 29 _ ?_ (HS.out _ (hb0.trans (c9.mono hb0.size))) ?_
        · go_simp
        rintro e9 w1 ⟨rfl, h1⟩
        have c1 := c9.trans (h1.mono c9.size)
        refine ⟨_, rfl, (map_row (e_on (c1) hx0 (e_lt hx0))), ?_⟩
        simp only [Act.put, List.setIfInBounds_toArray, List.set_cons_zero, List.set_cons_succ]
        repeat (first | (refine Tree.take ?_ (by rfl) ?_ ?_; rotate_left; (· rintro w9 u0; go_simp; (try rw [if_neg (by omega)]); all_goals (with_reducible rfl)); simp only [Act.put, List.setIfInBounds_toArray, List.set_cons_zero, List.set_cons_succ]))
        refine Tree.fork (by rfl) (by rfl) ?_ ?_
        · refine Tree.wp_call 38 _ ?_ (HP.out _ (hb0.trans (c1.mono hb0.size))) ?_
          · go_simp
          rintro e9 w2 ⟨rfl, h2⟩
          have c2 := c1.trans (h2.mono c1.size)
          refine ⟨_, rfl, (map_row (e_on (c2) hx0 (e_lt hx0))), ?_⟩
          simp only [Act.put, List.setIfInBounds_toArray, List.set_cons_zero, List.set_cons_succ]
          repeat (first | (refine Tree.take ?_ (by rfl) ?_ ?_; rotate_left; (· rintro w9 u0; go_simp; (try rw [if_neg (by omega)]); all_goals (with_reducible rfl)); simp only [Act.put, List.setIfInBounds_toArray, List.set_cons_zero, List.set_cons_succ]))
          refine Tree.only (by rfl) ?_
          have g3 := heap_alloc_new w2 (partRow none 0 0 0)
          have c3 := c2.alloc c2.size (partRow none 0 0 0)
          have q3 : w0.heap.size ≤ (w2).heap.size := c2.size
          generalize hG3 : (w2).heap.size = G at *
          refine Tree.wp_make (.pointer (some ⟨G, 0, none⟩)) ((w2).alloc (partRow none 0 0 0)) ?_ ⟨map_row (e_on (c3) hx0 (e_lt hx0)), ?_⟩
          · rw [← hG3]; go_simp
          clear hG3
          generalize (w2).alloc (partRow none 0 0 0) = v3 at *
          simp only [Act.put, List.setIfInBounds_toArray, List.set_cons_zero, List.set_cons_succ]
          repeat (first | (refine Tree.take ?_ (by rfl) ?_ ?_; rotate_left; (· rintro w9 u0; go_simp; (try rw [if_neg (by omega)]); all_goals (with_reducible rfl)); simp only [Act.put, List.setIfInBounds_toArray, List.set_cons_zero, List.set_cons_succ]))
          have c4 := below_setRow c3 q3 #[.slice a n c, .int .i64 ST]
          have g4 := setRow_heap v3 G _ #[.slice a n c, .int .i64 ST] _ _ g3
          refine Tree.only (by rfl) (wp_store_row 70 _ _ rfl G #[.slice a n c, .int .i64 ST] (by rfl) (by rfl) 70 _ g3 part_info rfl (by simp [Value.oneCell']) ⟨map_row (e_on (c4) hx0 (e_lt hx0)), ?_⟩)
          simp only [Act.put]
          repeat (first | (refine Tree.take ?_ (by rfl) ?_ ?_; rotate_left; (· rintro w9 u0; go_simp; (try rw [if_neg (by omega)]); all_goals (with_reducible rfl)); simp only [Act.put, List.setIfInBounds_toArray, List.set_cons_zero, List.set_cons_succ]))
          refine Tree.ends ?_
          go_wp2_with fail
          go_meet
          exact ⟨G, rfl, rfl, q3, g4, c4⟩
        · have g2 := heap_alloc_new w1 (partRow none 0 0 0)
          have c2 := c1.alloc c1.size (partRow none 0 0 0)
          have q2 : w0.heap.size ≤ (w1).heap.size := c1.size
          generalize hG2 : (w1).heap.size = G at *
          refine Tree.wp_make (.pointer (some ⟨G, 0, none⟩)) ((w1).alloc (partRow none 0 0 0)) ?_ ⟨map_row (e_on (c2) hx0 (e_lt hx0)), ?_⟩
          · rw [← hG2]; go_simp
          clear hG2
          generalize (w1).alloc (partRow none 0 0 0) = v2 at *
          simp only [Act.put, List.setIfInBounds_toArray, List.set_cons_zero, List.set_cons_succ]
          repeat (first | (refine Tree.take ?_ (by rfl) ?_ ?_; rotate_left; (· rintro w9 u0; go_simp; (try rw [if_neg (by omega)]); all_goals (with_reducible rfl)); simp only [Act.put, List.setIfInBounds_toArray, List.set_cons_zero, List.set_cons_succ]))
          refine Tree.only (by rfl) ?_
          refine Tree.wp_call 38 _ ?_ (HP.out _ (hb0.trans (c2.mono hb0.size))) ?_
          · go_simp
          rintro e9 w3 ⟨rfl, h3⟩
          have c3 := c2.trans (h3.mono c2.size)
          have g3 := e_on h3 g2 (e_lt g2)
          refine ⟨_, rfl, (map_row (e_on (c3) hx0 (e_lt hx0))), ?_⟩
          simp only [Act.put, List.setIfInBounds_toArray, List.set_cons_zero, List.set_cons_succ]
          repeat (first | (refine Tree.take ?_ (by rfl) ?_ ?_; rotate_left; (· rintro w9 u0; go_simp; (try rw [if_neg (by omega)]); all_goals (with_reducible rfl)); simp only [Act.put, List.setIfInBounds_toArray, List.set_cons_zero, List.set_cons_succ]))
          have c4 := below_setRow c3 q2 #[.slice a n c, .int .i64 ST]
          have g4 := setRow_heap w3 G _ #[.slice a n c, .int .i64 ST] _ _ g3
          refine Tree.only (by rfl) (wp_store_row 70 _ _ rfl G #[.slice a n c, .int .i64 ST] (by rfl) (by rfl) 70 _ g3 part_info rfl (by simp [Value.oneCell']) ⟨map_row (e_on (c4) hx0 (e_lt hx0)), ?_⟩)
          simp only [Act.put]
          repeat (first | (refine Tree.take ?_ (by rfl) ?_ ?_; rotate_left; (· rintro w9 u0; go_simp; (try rw [if_neg (by omega)]); all_goals (with_reducible rfl)); simp only [Act.put, List.setIfInBounds_toArray, List.set_cons_zero, List.set_cons_succ]))
          refine Tree.ends ?_
          go_wp2_with fail
          go_meet
          exact ⟨G, rfl, rfl, q2, g4, c4⟩
      · have g1 : (w0.drew.alloc (partRow none 0 0 0)).heap[w0.heap.size]? = some (partRow none 0 0 0) := heap_alloc_new w0.drew (partRow none 0 0 0)
        have c1 := c9.alloc c9.size (partRow none 0 0 0)
        have q1 : w0.heap.size ≤ w0.heap.size := Nat.le_refl _
        refine Tree.wp_make (.pointer (some ⟨w0.heap.size, 0, none⟩)) (w0.drew.alloc (partRow none 0 0 0)) ?_ ⟨map_row (e_on (c1) hx0 (e_lt hx0)), ?_⟩
        · go_simp
        generalize w0.drew.alloc (partRow none 0 0 0) = v1 at *
        simp only [Act.put, List.setIfInBounds_toArray, List.set_cons_zero, List.set_cons_succ]
        repeat (first | (refine Tree.take ?_ (by rfl) ?_ ?_; rotate_left; (· rintro w9 u0; go_simp; (try rw [if_neg (by omega)]); all_goals (with_reducible rfl)); simp only [Act.put, List.setIfInBounds_toArray, List.set_cons_zero, List.set_cons_succ]))
        refine Tree.only (by rfl) ?_
        refine Tree.wp_call 29 _ ?_ (HS.out _ (hb0.trans (c1.mono hb0.size))) ?_
        · go_simp
        rintro e9 w2 ⟨rfl, h2⟩
        have c2 := c1.trans (h2.mono c1.size)
        have g2 := e_on h2 g1 (e_lt g1)
        refine ⟨_, rfl, (map_row (e_on (c2) hx0 (e_lt hx0))), ?_⟩
        simp only [Act.put, List.setIfInBounds_toArray, List.set_cons_zero, List.set_cons_succ]
        repeat (first | (refine Tree.take ?_ (by rfl) ?_ ?_; rotate_left; (· rintro w9 u0; go_simp; (try rw [if_neg (by omega)]); all_goals (with_reducible rfl)); simp only [Act.put, List.setIfInBounds_toArray, List.set_cons_zero, List.set_cons_succ]))
        refine Tree.only (by rfl) ?_
        refine Tree.wp_call 38 _ ?_ (HP.out _ (hb0.trans (c2.mono hb0.size))) ?_
        · go_simp
        rintro e9 w3 ⟨rfl, h3⟩
        have c3 := c2.trans (h3.mono c2.size)
        have g3 := e_on h3 g2 (e_lt g2)
        refine ⟨_, rfl, (map_row (e_on (c3) hx0 (e_lt hx0))), ?_⟩
        simp only [Act.put, List.setIfInBounds_toArray, List.set_cons_zero, List.set_cons_succ]
        repeat (first | (refine Tree.take ?_ (by rfl) ?_ ?_; rotate_left; (· rintro w9 u0; go_simp; (try rw [if_neg (by omega)]); all_goals (with_reducible rfl)); simp only [Act.put, List.setIfInBounds_toArray, List.set_cons_zero, List.set_cons_succ]))
        have c4 := below_setRow c3 q1 #[.slice a n c, .int .i64 ST]
        have g4 := setRow_heap w3 w0.heap.size _ #[.slice a n c, .int .i64 ST] _ _ g3
        refine Tree.only (by rfl) (wp_store_row 70 _ _ rfl w0.heap.size #[.slice a n c, .int .i64 ST] (by rfl) (by rfl) 70 _ g3 part_info rfl (by simp [Value.oneCell']) ⟨map_row (e_on (c4) hx0 (e_lt hx0)), ?_⟩)
        simp only [Act.put]
        repeat (first | (refine Tree.take ?_ (by rfl) ?_ ?_; rotate_left; (· rintro w9 u0; go_simp; (try rw [if_neg (by omega)]); all_goals (with_reducible rfl)); simp only [Act.put, List.setIfInBounds_toArray, List.set_cons_zero, List.set_cons_succ]))
        refine Tree.ends ?_
        go_wp2_with fail
        go_meet
        exact ⟨w0.heap.size, rfl, rfl, q1, g4, c4⟩
    case rest =>
      obtain ⟨g, rfl, rfl, hg, hgr, hc1⟩ := hcut
      have hr1 := e_on hc1 hr0 (e_lt hr0)
      have b1 := hb0.trans (hc1.mono hb0.size)
      go_wp2_with (first
        | ((with_reducible refine Plan.store_lit 28 (.tmp 4) _ (w.heap.size + 1) ?_ hr1 ?_ ?_ ?_ ?_ ?_ ?_); rotate_left; (· rfl); (· rfl); (· exact entry_info); (· rfl); (· simp [Value.oneCell']); simp only [Act.put]))
      exact bodyPost_ret (Plan.results_cell_tmp (p := 4) (q := 5) rfl _ _ _ _ _ _ _ rfl (setRow_heap _ _ _ _ _ _ hr1) Try.underlying28 rfl entry_info) rfl ⟨e_v H1.out.symm, below_setRow b1 (show w.heap.size ≤ w.heap.size + 1 by omega) _⟩
  · rw [lookV_find hva h0]
    have hst := st_lt hva b
    rw [hlen] at hst
    have hat := shard_at hva b
    obtain ⟨x, L, b', m, kk, rfl, hL, hcc, hle⟩ := hl.at' (st Ls b) hst
    rw [hat] at hL
    obtain rfl := Option.some.inj hL
    have hme := flat_each (hm (validM_iff.1 hva).1.2) _ (List.mem_of_getElem? hat)
    have hml := hle.length
    have HPIN := Lib.hid (pin hcc hle)
    have hxlt : x.block < w.heap.size := by
      have := World.block_lt_of_cell? w _ hcc
      rwa [ent_add_block] at this
    have HLI := Lib.hid (fun W (h : Below w.heap.size w W) => plist_any x n c (st Ls b) b' m kk W hst (Nat.lt_of_lt_of_le hxlt h.size) (HPIN.out W h).1)
    have HFI := Lib.hid (fun W (h : Below w.heap.size w W) => find_any _ (shardOf Ls b) b b' m kk W (HPIN.out W h).2 (by omega))
    rw [stripe_eq hva h0] at HS HP
    unfold findV at HFI ⊢
    generalize (findE (shardOf Ls b) b).isSome = IS at *
    generalize (findE (shardOf Ls b) b).getD zeroE = Y at *
    obtain ⟨yb, yk, yv, ym, yz, yo⟩ := Y
    try simp only at HFI
    clear hva h0 hat hcc hle hme hml
    generalize hSt : st Ls b = k at *
    clear hSt
    rw [hg] at HP
    generalize hST : (k : Int) = ST at HS HP
    clear hg hl hm
    have c0 := Below.refl ((w.alloc (mapRow (some x) n c)).alloc (entRow 0 0 0 0 0 0)).heap.size ((w.alloc (mapRow (some x) n c)).alloc (entRow 0 0 0 0 0 0))
    go_enter Try.func22, Try.ntmps22
    generalize hw0 : (w.alloc (mapRow (some x) n c)).alloc (entRow 0 0 0 0 0 0) = w0 at *
    go_upto_region 1 with fail
    go_cut [6, 7] (fun s6 s7 wx => ∃ g : Nat, s6 = .pointer (some ⟨g, 0, none⟩) ∧ s7 = .bool true ∧ w0.heap.size ≤ g ∧ wx.heap[g]? = some (partRow (some x) n c ST) ∧ Below w0.heap.size w0 wx)
    case first =>
      refine Tree.start (fun W => W.cell? ⟨w.heap.size, 0, none⟩ = some (.slice (some x) n c)) (.take 0 (.take 1 (.take 2 (.fork 3 (.fork 4 (.take 5 (.take 6 (.take 7 (.only 8 (.only 9 (.take 10 (.done))))))) 8 (.only 4 (.take 5 (.take 6 (.take 7 (.only 9 (.take 10 (.done)))))))) 8 (.only 3 (.only 4 (.take 5 (.take 6 (.take 7 (.only 9 (.take 10 (.done)))))))))))) (by kernel_rfl) (by kernel_rfl) (by kernel_rfl) (by kernel_rfl) (map_row (e_on (c0.drew) hx0 (e_lt hx0))) ?_
      simp only [Tree.T.map, List.getElem?_toArray, List.getElem?_cons_zero, List.getElem?_cons_succ]
      repeat (first | (refine Tree.take ?_ (by rfl) ?_ ?_; rotate_left; (· rintro w9 u0; go_simp; (try rw [if_neg (by omega)]); all_goals (with_reducible rfl)); simp only [Act.put, List.setIfInBounds_toArray, List.set_cons_zero, List.set_cons_succ]))
      have c9 := c0.drew
      refine Tree.fork (by rfl) (by rfl) ?_ ?_
      · refine Tree.wp_call 29 _ ?_ (HS.out _ (hb0.trans (c9.mono hb0.size))) ?_
        · go_simp
        rintro e9 w1 ⟨rfl, h1⟩
        have c1 := c9.trans (h1.mono c9.size)
        refine ⟨_, rfl, (map_row (e_on (c1) hx0 (e_lt hx0))), ?_⟩
        simp only [Act.put, List.setIfInBounds_toArray, List.set_cons_zero, List.set_cons_succ]
        repeat (first | (refine Tree.take ?_ (by rfl) ?_ ?_; rotate_left; (· rintro w9 u0; go_simp; (try rw [if_neg (by omega)]); all_goals (with_reducible rfl)); simp only [Act.put, List.setIfInBounds_toArray, List.set_cons_zero, List.set_cons_succ]))
        refine Tree.fork (by rfl) (by rfl) ?_ ?_
        · refine Tree.wp_call 38 _ ?_ (HP.out _ (hb0.trans (c1.mono hb0.size))) ?_
          · go_simp
          rintro e9 w2 ⟨rfl, h2⟩
          have c2 := c1.trans (h2.mono c1.size)
          refine ⟨_, rfl, (map_row (e_on (c2) hx0 (e_lt hx0))), ?_⟩
          simp only [Act.put, List.setIfInBounds_toArray, List.set_cons_zero, List.set_cons_succ]
          repeat (first | (refine Tree.take ?_ (by rfl) ?_ ?_; rotate_left; (· rintro w9 u0; go_simp; (try rw [if_neg (by omega)]); all_goals (with_reducible rfl)); simp only [Act.put, List.setIfInBounds_toArray, List.set_cons_zero, List.set_cons_succ]))
          refine Tree.only (by rfl) ?_
          have g3 := heap_alloc_new w2 (partRow none 0 0 0)
          have c3 := c2.alloc c2.size (partRow none 0 0 0)
          have q3 : w0.heap.size ≤ (w2).heap.size := c2.size
          generalize hG3 : (w2).heap.size = G at *
          refine Tree.wp_make (.pointer (some ⟨G, 0, none⟩)) ((w2).alloc (partRow none 0 0 0)) ?_ ⟨map_row (e_on (c3) hx0 (e_lt hx0)), ?_⟩
          · rw [← hG3]; go_simp
          clear hG3
          generalize (w2).alloc (partRow none 0 0 0) = v3 at *
          simp only [Act.put, List.setIfInBounds_toArray, List.set_cons_zero, List.set_cons_succ]
          repeat (first | (refine Tree.take ?_ (by rfl) ?_ ?_; rotate_left; (· rintro w9 u0; go_simp; (try rw [if_neg (by omega)]); all_goals (with_reducible rfl)); simp only [Act.put, List.setIfInBounds_toArray, List.set_cons_zero, List.set_cons_succ]))
          have c4 := below_setRow c3 q3 #[.slice (some x) n c, .int .i64 ST]
          have g4 := setRow_heap v3 G _ #[.slice (some x) n c, .int .i64 ST] _ _ g3
          refine Tree.only (by rfl) (wp_store_row 70 _ _ rfl G #[.slice (some x) n c, .int .i64 ST] (by rfl) (by rfl) 70 _ g3 part_info rfl (by simp [Value.oneCell']) ⟨map_row (e_on (c4) hx0 (e_lt hx0)), ?_⟩)
          simp only [Act.put]
          repeat (first | (refine Tree.take ?_ (by rfl) ?_ ?_; rotate_left; (· rintro w9 u0; go_simp; (try rw [if_neg (by omega)]); all_goals (with_reducible rfl)); simp only [Act.put, List.setIfInBounds_toArray, List.set_cons_zero, List.set_cons_succ]))
          refine Tree.ends ?_
          go_wp2_with fail
          go_meet
          exact ⟨G, rfl, rfl, q3, g4, c4⟩
        · have g2 := heap_alloc_new w1 (partRow none 0 0 0)
          have c2 := c1.alloc c1.size (partRow none 0 0 0)
          have q2 : w0.heap.size ≤ (w1).heap.size := c1.size
          generalize hG2 : (w1).heap.size = G at *
          refine Tree.wp_make (.pointer (some ⟨G, 0, none⟩)) ((w1).alloc (partRow none 0 0 0)) ?_ ⟨map_row (e_on (c2) hx0 (e_lt hx0)), ?_⟩
          · rw [← hG2]; go_simp
          clear hG2
          generalize (w1).alloc (partRow none 0 0 0) = v2 at *
          simp only [Act.put, List.setIfInBounds_toArray, List.set_cons_zero, List.set_cons_succ]
          repeat (first | (refine Tree.take ?_ (by rfl) ?_ ?_; rotate_left; (· rintro w9 u0; go_simp; (try rw [if_neg (by omega)]); all_goals (with_reducible rfl)); simp only [Act.put, List.setIfInBounds_toArray, List.set_cons_zero, List.set_cons_succ]))
          refine Tree.only (by rfl) ?_
          refine Tree.wp_call 38 _ ?_ (HP.out _ (hb0.trans (c2.mono hb0.size))) ?_
          · go_simp
          rintro e9 w3 ⟨rfl, h3⟩
          have c3 := c2.trans (h3.mono c2.size)
          have g3 := e_on h3 g2 (e_lt g2)
          refine ⟨_, rfl, (map_row (e_on (c3) hx0 (e_lt hx0))), ?_⟩
          simp only [Act.put, List.setIfInBounds_toArray, List.set_cons_zero, List.set_cons_succ]
          repeat (first | (refine Tree.take ?_ (by rfl) ?_ ?_; rotate_left; (· rintro w9 u0; go_simp; (try rw [if_neg (by omega)]); all_goals (with_reducible rfl)); simp only [Act.put, List.setIfInBounds_toArray, List.set_cons_zero, List.set_cons_succ]))
          have c4 := below_setRow c3 q2 #[.slice (some x) n c, .int .i64 ST]
          have g4 := setRow_heap w3 G _ #[.slice (some x) n c, .int .i64 ST] _ _ g3
          refine Tree.only (by rfl) (wp_store_row 70 _ _ rfl G #[.slice (some x) n c, .int .i64 ST] (by rfl) (by rfl) 70 _ g3 part_info rfl (by simp [Value.oneCell']) ⟨map_row (e_on (c4) hx0 (e_lt hx0)), ?_⟩)
          simp only [Act.put]
          repeat (first | (refine Tree.take ?_ (by rfl) ?_ ?_; rotate_left; (· rintro w9 u0; go_simp; (try rw [if_neg (by omega)]); all_goals (with_reducible rfl)); simp only [Act.put, List.setIfInBounds_toArray, List.set_cons_zero, List.set_cons_succ]))
          refine Tree.ends ?_
          go_wp2_with fail
          go_meet
          exact ⟨G, rfl, rfl, q2, g4, c4⟩
      · have g1 : (w0.drew.alloc (partRow none 0 0 0)).heap[w0.heap.size]? = some (partRow none 0 0 0) := heap_alloc_new w0.drew (partRow none 0 0 0)
        have c1 := c9.alloc c9.size (partRow none 0 0 0)
        have q1 : w0.heap.size ≤ w0.heap.size := Nat.le_refl _
        refine Tree.wp_make (.pointer (some ⟨w0.heap.size, 0, none⟩)) (w0.drew.alloc (partRow none 0 0 0)) ?_ ⟨map_row (e_on (c1) hx0 (e_lt hx0)), ?_⟩
        · go_simp
        generalize w0.drew.alloc (partRow none 0 0 0) = v1 at *
        simp only [Act.put, List.setIfInBounds_toArray, List.set_cons_zero, List.set_cons_succ]
        repeat (first | (refine Tree.take ?_ (by rfl) ?_ ?_; rotate_left; (· rintro w9 u0; go_simp; (try rw [if_neg (by omega)]); all_goals (with_reducible rfl)); simp only [Act.put, List.setIfInBounds_toArray, List.set_cons_zero, List.set_cons_succ]))
        refine Tree.only (by rfl) ?_
        refine Tree.wp_call 29 _ ?_ (HS.out _ (hb0.trans (c1.mono hb0.size))) ?_
        · go_simp
        rintro e9 w2 ⟨rfl, h2⟩
        have c2 := c1.trans (h2.mono c1.size)
        have g2 := e_on h2 g1 (e_lt g1)
        refine ⟨_, rfl, (map_row (e_on (c2) hx0 (e_lt hx0))), ?_⟩
        simp only [Act.put, List.setIfInBounds_toArray, List.set_cons_zero, List.set_cons_succ]
        repeat (first | (refine Tree.take ?_ (by rfl) ?_ ?_; rotate_left; (· rintro w9 u0; go_simp; (try rw [if_neg (by omega)]); all_goals (with_reducible rfl)); simp only [Act.put, List.setIfInBounds_toArray, List.set_cons_zero, List.set_cons_succ]))
        refine Tree.only (by rfl) ?_
        refine Tree.wp_call 38 _ ?_ (HP.out _ (hb0.trans (c2.mono hb0.size))) ?_
        · go_simp
        rintro e9 w3 ⟨rfl, h3⟩
        have c3 := c2.trans (h3.mono c2.size)
        have g3 := e_on h3 g2 (e_lt g2)
        refine ⟨_, rfl, (map_row (e_on (c3) hx0 (e_lt hx0))), ?_⟩
        simp only [Act.put, List.setIfInBounds_toArray, List.set_cons_zero, List.set_cons_succ]
        repeat (first | (refine Tree.take ?_ (by rfl) ?_ ?_; rotate_left; (· rintro w9 u0; go_simp; (try rw [if_neg (by omega)]); all_goals (with_reducible rfl)); simp only [Act.put, List.setIfInBounds_toArray, List.set_cons_zero, List.set_cons_succ]))
        have c4 := below_setRow c3 q1 #[.slice (some x) n c, .int .i64 ST]
        have g4 := setRow_heap w3 w0.heap.size _ #[.slice (some x) n c, .int .i64 ST] _ _ g3
        refine Tree.only (by rfl) (wp_store_row 70 _ _ rfl w0.heap.size #[.slice (some x) n c, .int .i64 ST] (by rfl) (by rfl) 70 _ g3 part_info rfl (by simp [Value.oneCell']) ⟨map_row (e_on (c4) hx0 (e_lt hx0)), ?_⟩)
        simp only [Act.put]
        repeat (first | (refine Tree.take ?_ (by rfl) ?_ ?_; rotate_left; (· rintro w9 u0; go_simp; (try rw [if_neg (by omega)]); all_goals (with_reducible rfl)); simp only [Act.put, List.setIfInBounds_toArray, List.set_cons_zero, List.set_cons_succ]))
        refine Tree.ends ?_
        go_wp2_with fail
        go_meet
        exact ⟨w0.heap.size, rfl, rfl, q1, g4, c4⟩
    case rest =>
      obtain ⟨g, rfl, rfl, hg, hgr, hc1⟩ := hcut
      have hr1 := e_on hc1 hr0 (e_lt hr0)
      have b1 := hb0.trans (hc1.mono hb0.size)
      rw [← hST] at hgr
      clear hST
      go_wp2_with (first
        | ((with_reducible refine Plan.load_lit 70 (.tmp 6) g ?_ hgr Try.underlying70 ?_ ?_ ?_); (· rfl); (· rfl); (· exact part_info); simp only [Act.put, List.setIfInBounds_toArray, List.set_cons_zero, List.set_cons_succ])
        | (go_at_call 40; ((with_reducible refine (HLI.out _ b1).mono ?_); rintro r9 w2 ⟨rfl, h2⟩; have b2 := b1.trans (h2.mono b1.size); have hr2 := e_on h2 hr1 (e_lt hr1)))
        | (go_at_call 42; ((with_reducible refine (HFI.out _ b2).mono ?_); rintro r9 w3 ⟨rfl, h3⟩; have b3 := b2.trans (h3.mono b2.size); have hr3 := e_on h3 hr2 (e_lt hr2)))
        | ((with_reducible refine Plan.store_lit 28 (.tmp 4) _ (w.heap.size + 1) ?_ hr3 ?_ ?_ ?_ ?_ ?_ ?_); rotate_left; (· rfl); (· rfl); (· exact entry_info); (· rfl); (· simp [Value.oneCell']); simp only [Act.put]))
      exact bodyPost_ret (Plan.results_cell_tmp (p := 4) (q := 5) rfl _ _ _ _ _ _ _ rfl (setRow_heap _ _ _ _ _ _ hr3) Try.underlying28 rfl entry_info) rfl ⟨e_v rfl, below_setRow b3 (show w.heap.size ≤ w.heap.size + 1 by omega) _⟩
end Go.Proofs.Ytljobnfilnbefaa.Ents

/- The walk of the program's Drop of a map. -/
namespace Go.Proofs.Ytljobnfilnbefaa.Ents
open Go.RowKit Plan EntMath
set_option maxHeartbeats 8000000 in
set_option maxRecDepth 20000 in
theorem mdrop_any (F : Nat → Prop) (Ls : List (List Ent)) (i cut : Int) (a : Option Addr) (n c : Nat) (w : World) (hl : MList w F a n c Ls) (hm : Near Ls) :
    Calls Try.prog 21 #[mapV a n c, .int .i64 i, .int .i64 cut] w (DropMPost w F (dropM Ls i cut) (goneM Ls i cut)) := by
  have hlen := hl.length
  have hA := ((Below.refl w.heap.size w).alloc (Nat.le_refl _) (mapRow a n c)).alloc (by simp) (mapRow none 0 0)
  have hr0 := heap_second w (mapRow a n c) (mapRow none 0 0)
  have hx0 := heap_first w (mapRow a n c) (mapRow none 0 0)
  have HP := Lib.hid (fun W (h : Below w.heap.size w W) => partOf_any _ Ls i a n c W (hl.same h))
  have HEND := Lib.hid (fun W (h : Below w.heap.size w W) (cs : Array Value) => (show MList (W.setRow (w.heap.size + 1) cs) (Plus F w.heap.size) a n c Ls from
    ((hl.cut.on (Same.below (w' := W) h)).on (Same.row (r := w.heap.size + 1) (fun h9 => by have := h9.2; omega) cs)).mono (fun b _ h => .inl h.1)))
  have hcases : (partB Ls i = false ∧ ¬ (validM Ls = true ∧ 0 ≤ i ∧ i < (Ls.length : Int))) ∨ (partB Ls i = true ∧ validM Ls = true ∧ 0 ≤ i ∧ i < (Ls.length : Int)) := by
    cases hg : partB Ls i
    · refine .inl ⟨rfl, fun h => ?_⟩
      unfold partB at hg
      rw [h.1, decide_eq_true h.2.1, decide_eq_true h.2.2] at hg
      cases hg
    · unfold partB at hg
      rw [Bool.and_eq_true, Bool.and_eq_true, decide_eq_true_eq, decide_eq_true_eq] at hg
      exact .inr ⟨rfl, hg.1.1, hg.1.2, hg.2⟩
  rcases hcases with ⟨hg, hv⟩ | ⟨hg, hva, hi0, hin⟩
  · obtain ⟨r1, r2⟩ := dropM_no (cut := cut) hv
    rw [r1, r2]
    rw [hg] at HP
    clear r1 r2 hg hv hl hm
    go_enter Try.func21, Try.ntmps21
    generalize hw0 : (w.alloc (mapRow a n c)).alloc (mapRow none 0 0) = w0 at *
    go_wp2_with (first
      | ((with_reducible refine Plan.load_lit 24 (.tmp 3) w.heap.size ?_ hx0 Try.underlying24 ?_ ?_ ?_); (· rfl); (· rfl); (· exact map_info); simp only [Act.put, List.setIfInBounds_toArray, List.set_cons_zero, List.set_cons_succ])
      | (go_at_call 38; ((with_reducible refine (HP.out _ hA).mono ?_); rintro r9 w1 ⟨rfl, h1⟩; have b1 := (hA.trans (h1.mono hA.size)); have q1 := b1.alloc b1.size (partRow a n c i); have hr1 := e_al (e_on h1 hr0 (e_lt hr0)) (partRow a n c i); have hx1 := e_al (e_on h1 hx0 (e_lt hx0)) (partRow a n c i); clear hx0))
      | ((with_reducible refine Plan.load_lit 24 (.tmp 3) w.heap.size ?_ hx1 Try.underlying24 ?_ ?_ ?_); (· rfl); (· rfl); (· exact map_info); simp only [Act.put, List.setIfInBounds_toArray, List.set_cons_zero, List.set_cons_succ])
      | ((with_reducible refine Plan.store_lit 24 (.tmp 6) _ (w.heap.size + 1) ?_ hr1 ?_ ?_ ?_ ?_ ?_ ?_); rotate_left; (· rfl); (· rfl); (· exact map_info); (· rfl); (· simp [Value.oneCell']); simp only [Act.put]))
    exact bodyPost_ret (Plan.results_cell_tmp (p := 6) (q := 7) rfl _ _ _ _ _ _ _ rfl (setRow_heap _ _ _ _ _ _ hr1) Try.underlying24 rfl map_info) rfl ⟨_, _, _, _, _, _, rfl, HEND.out _ q1 _, EList.nil _ _, below_setRow q1 (show w.heap.size ≤ w.heap.size + 1 by omega) _⟩
  · obtain ⟨k, rfl⟩ : ∃ k : Nat, i = (k : Int) := ⟨i.toNat, by omega⟩
    have hkn : k < n := by omega
    obtain ⟨x, L, b, m, kk, rfl, hL, hcc, hle⟩ := hl.at' k hkn
    obtain ⟨r1, r2⟩ := dropM_at (cut := cut) hva hL
    rw [r1, r2]
    rw [hg] at HP
    have hn8 := (validM_iff.1 hva).1.2
    have HPIN := Lib.hid (pinF hcc hle)
    have hmL := flat_each (hm hn8) L (List.mem_of_getElem? hL)
    rw [hle.length] at hmL
    have hxlt : x.block < w.heap.size := by
      have := World.block_lt_of_cell? w _ hcc
      rwa [ent_add_block] at this
    have HLI := Lib.hid (fun W (h : Below w.heap.size w W) => plist_any x n c k b m kk W hkn (Nat.lt_of_lt_of_le hxlt h.size) (HPIN.out W h).1)
    have HDR := Lib.hid (fun W (h : Below w.heap.size w W) => drop_any _ L cut b m kk W (HPIN.out W h).2 (by omega))
    unfold DropPost at HDR
    have HML := Lib.hid (fun W W' (h : Below w.heap.size w W) (h2 : Below W.heap.size W W') => (show MList W' (Plus (fun b => F b ∧ b < w.heap.size) W.heap.size) (some x) n c Ls from
      ((hl.cut.on (Same.below h)).on (Same.below h2)).mono fun _ _ h => .inl h))
    clear hva hl hcc hle hm hg r1 r2 hi0 hin hmL
    by_cases hg : goneL L cut = []
    · rw [if_pos hg, hg]
      have HG0 := Lib.hid (show (goneL L cut).length = 0 by rw [hg]; rfl)
      clear hg
      go_enter Try.func21, Try.ntmps21
      generalize hw0 : (w.alloc (mapRow (some x) n c)).alloc (mapRow none 0 0) = w0 at *
      go_wp2_with (first
        | ((with_reducible refine Plan.load_lit 24 (.tmp 3) w.heap.size ?_ hx0 Try.underlying24 ?_ ?_ ?_); (· rfl); (· rfl); (· exact map_info); simp only [Act.put, List.setIfInBounds_toArray, List.set_cons_zero, List.set_cons_succ])
        | (go_at_call 38; ((with_reducible refine (HP.out _ hA).mono ?_); rintro r9 w1 ⟨rfl, h1⟩; have b1 := (hA.trans (h1.mono hA.size)); have q1 := b1.alloc b1.size (partRow (some x) n c k); have hr1 := e_al (e_on h1 hr0 (e_lt hr0)) (partRow (some x) n c k); have hx1 := e_al (e_on h1 hx0 (e_lt hx0)) (partRow (some x) n c k); have hp1 := heap_alloc_new w1 (partRow (some x) n c k); clear hx0))
        | ((with_reducible refine Plan.load_lit 70 (.tmp 8) w1.heap.size ?_ hp1 Try.underlying70 ?_ ?_ ?_); (· rfl); (· rfl); (· exact part_info); simp only [Act.put, List.setIfInBounds_toArray, List.set_cons_zero, List.set_cons_succ])
        | (go_at_call 40; ((with_reducible refine (HLI.out _ q1).mono ?_); rintro r9 w2 ⟨rfl, h2⟩; have b2 := (q1.trans (h2.mono q1.size)); have hr2 := e_on h2 hr1 (e_lt hr1); have hx2 := e_on h2 hx1 (e_lt hx1); have hp2 := e_on h2 hp1 (e_lt hp1); clear hp1 hx1))
        | (go_at_call 39; ((with_reducible refine (HDR.out _ b2).mono ?_); rintro r9 w3 ⟨a2, m2, k2, a3, m3, k3, rfl, l2, l3, h3⟩; have hr3 := e_on h3 hr2 (e_lt hr2); have hx3 := e_on h3 hx2 (e_lt hx2); have b3 := b2.trans (h3.mono b2.size); have hm3 := l3.length; rw [HG0.out] at hm3; obtain rfl : m3 = 0 := hm3.symm; clear hx2))
        | ((with_reducible refine Plan.load_lit 24 (.tmp 3) w.heap.size ?_ hx3 Try.underlying24 ?_ ?_ ?_); (· rfl); (· rfl); (· exact map_info); simp only [Act.put, List.setIfInBounds_toArray, List.set_cons_zero, List.set_cons_succ])
        | ((with_reducible refine Plan.store_lit 24 (.tmp 6) _ (w.heap.size + 1) ?_ hr3 ?_ ?_ ?_ ?_ ?_ ?_); rotate_left; (· rfl); (· rfl); (· exact map_info); (· rfl); (· simp [Value.oneCell']); simp only [Act.put]))
      exact bodyPost_ret (Plan.results_cell_tmp (p := 6) (q := 7) rfl _ _ _ _ _ _ _ rfl (setRow_heap _ _ _ _ _ _ hr3) Try.underlying24 rfl map_info) rfl ⟨_, _, _, _, _, _, rfl, HEND.out _ b3 _, EList.nil _ _, below_setRow b3 (show w.heap.size ≤ w.heap.size + 1 by omega) _⟩
    · rw [if_neg hg]
      have HG1 := Lib.hid (gone_len hg)
      clear hg
      go_enter Try.func21, Try.ntmps21
      generalize hw0 : (w.alloc (mapRow (some x) n c)).alloc (mapRow none 0 0) = w0 at *
      go_wp2_with (first
        | ((with_reducible refine Plan.load_lit 24 (.tmp 3) w.heap.size ?_ hx0 Try.underlying24 ?_ ?_ ?_); (· rfl); (· rfl); (· exact map_info); simp only [Act.put, List.setIfInBounds_toArray, List.set_cons_zero, List.set_cons_succ])
        | (go_at_call 38; ((with_reducible refine (HP.out _ hA).mono ?_); rintro r9 w1 ⟨rfl, h1⟩; have b1 := (hA.trans (h1.mono hA.size)); have q1 := b1.alloc b1.size (partRow (some x) n c k); have hr1 := e_al (e_on h1 hr0 (e_lt hr0)) (partRow (some x) n c k); have hx1 := e_al (e_on h1 hx0 (e_lt hx0)) (partRow (some x) n c k); have hp1 := heap_alloc_new w1 (partRow (some x) n c k); clear hx0))
        | ((with_reducible refine Plan.load_lit 70 (.tmp 8) w1.heap.size ?_ hp1 Try.underlying70 ?_ ?_ ?_); (· rfl); (· rfl); (· exact part_info); simp only [Act.put, List.setIfInBounds_toArray, List.set_cons_zero, List.set_cons_succ])
        | (go_at_call 40; ((with_reducible refine (HLI.out _ q1).mono ?_); rintro r9 w2 ⟨rfl, h2⟩; have b2 := (q1.trans (h2.mono q1.size)); have hr2 := e_on h2 hr1 (e_lt hr1); have hx2 := e_on h2 hx1 (e_lt hx1); have hp2 := e_on h2 hp1 (e_lt hp1); clear hp1 hx1))
        | (go_at_call 39; ((with_reducible refine (HDR.out _ b2).mono ?_); rintro r9 w3 ⟨a2, m2, k2, a3, m3, k3, rfl, l2, l3, h3⟩; have hr3 := e_on h3 hr2 (e_lt hr2); have hp3 := e_on h3 hp2 (e_lt hp2); have b3 := b2.trans (h3.mono b2.size); have hm3 := l3.length; obtain ⟨hm3a, hm3b⟩ := HG1.out m3 hm3; have HW := Lib.hid (pwith_any _ Ls (some x) n c k (stayL L cut) a2 m2 k2 w3 (HML.out _ _ b2 h3) hkn l2 (by omega)); clear hp2))
        | ((with_reducible refine Plan.load_lit 70 (.tmp 8) w1.heap.size ?_ hp3 Try.underlying70 ?_ ?_ ?_); (· rfl); (· rfl); (· exact part_info); simp only [Act.put, List.setIfInBounds_toArray, List.set_cons_zero, List.set_cons_succ])
        | (go_at_call 41; ((with_reducible refine HW.out.mono ?_); rintro r9 w4 ⟨g4, c4, rfl, l4, h4⟩; have hr4 := e_on h4 hr3 (e_lt hr3); have b4 := b3.trans (h4.mono b3.size); have hs2 := b2.size; have hs3 := h3.size; have hs0 := e_lt hr2; have l5 := l3.on (Same.below h4)))
        | ((with_reducible refine Plan.store_lit 24 (.tmp 6) _ (w.heap.size + 1) ?_ hr4 ?_ ?_ ?_ ?_ ?_ ?_); rotate_left; (· rfl); (· rfl); (· exact map_info); (· rfl); (· simp [Value.oneCell']); simp only [Act.put]))
      have hN : ∀ b, Plus (Plus (fun b => F b ∧ b < w.heap.size) w2.heap.size) w3.heap.size b → b ≠ w.heap.size + 1 ∧ Plus F w.heap.size b := fun b h => by
        rcases h with (h | h) | h
        · exact ⟨by have := h.2; omega, .inl h.1⟩
        · exact ⟨by omega, .inr (by omega)⟩
        · exact ⟨by omega, .inr (by omega)⟩
      have M9 := (l4.on (Same.row (r := w.heap.size + 1) (fun h9 => (hN _ h9).1 rfl) #[.slice (some ⟨g4, 0, none⟩) n c4])).mono (G := Plus F w.heap.size) (fun b _ h9 => (hN b h9).2)
      have E9 := (l5.on (Same.row (r := w.heap.size + 1) (fun h9 => (hN _ (.inl h9)).1 rfl) #[.slice (some ⟨g4, 0, none⟩) n c4])).mono (G := Plus F w.heap.size) (fun b _ h9 => (hN b (.inl h9)).2)
      exact bodyPost_ret (Plan.results_cell_tmp (p := 6) (q := 7) rfl _ _ _ _ _ _ _ rfl (setRow_heap _ _ _ _ _ _ hr4) Try.underlying24 rfl map_info) rfl ⟨_, _, _, _, _, _, rfl, M9, E9, below_setRow b4 (show w.heap.size ≤ w.heap.size + 1 by omega) _⟩
end Go.Proofs.Ytljobnfilnbefaa.Ents

/- The walk of the program's Relocate of a map. -/
namespace Go.Proofs.Ytljobnfilnbefaa.Ents
open Go.RowKit Plan EntMath
theorem part_no {Ls : List (List Ent)} {b : Int} (h : (validM Ls && decide (0 ≤ b)) = false) : ¬ (validM Ls = true ∧ 0 ≤ b) := fun h9 => by
  rw [h9.1, decide_eq_true h9.2] at h
  cases h
theorem part_yes {Ls : List (List Ent)} {b : Int} (h : (validM Ls && decide (0 ≤ b)) = true) : validM Ls = true ∧ 0 ≤ b := by
  rw [Bool.and_eq_true, decide_eq_true_eq] at h
  exact h
set_option maxHeartbeats 8000000 in
set_option maxRecDepth 20000 in
theorem mrelocate_any (F : Nat → Prop) (Ls : List (List Ent)) (b v fz fo tz tq m : Int) (a : Option Addr) (n c : Nat) (w : World) (hl : MList w F a n c Ls) (hm : Near Ls) :
    Calls Try.prog 23 #[mapV a n c, .int .i64 b, .int .i64 v, .agg #[.int .i64 fz, .int .i64 fo], .agg #[.int .i64 tz, .int .i64 tq], .int .i64 m] w (RelMPost w F (relocM Ls b v fz fo tz tq m) (movesM Ls b v fz fo tz tq m)) := by
  have hlen := hl.length
  have hb0 : Below w.heap.size w ((((w.alloc (mapRow a n c)).alloc (placeRow fz fo)).alloc (placeRow tz tq)).alloc (mapRow none 0 0)) := ((((Below.refl w.heap.size w).alloc (Nat.le_refl _) _).alloc (by simp) _).alloc (by simp; omega) _).alloc (by simp; omega) _
  obtain ⟨hx0, hp0, hq0, hr0⟩ := heap4 w (mapRow a n c) (placeRow fz fo) (placeRow tz tq) (mapRow none 0 0)
  have HS := Lib.hid (fun W (h : Below w.heap.size w W) => stripe_any _ Ls b a n c W (hl.same h))
  have HP := Lib.hid (fun W (h : Below w.heap.size w W) => partOf_any _ Ls (stripe Ls b) a n c W (hl.same h))
  rw [part_stripe] at HP
  have HEND := Lib.hid (fun W (h : Below w.heap.size w W) (cs : Array Value) => (show MList (W.setRow (w.heap.size + 3) cs) (Plus F w.heap.size) a n c Ls from
    ((hl.cut.on (Same.below (w' := W) h)).on (Same.row (r := w.heap.size + 3) (fun h9 => by have := h9.2; omega) cs)).mono (fun b _ h => .inl h.1)))
  cases hg : (validM Ls && decide (0 ≤ b))
  · obtain ⟨r1, r2⟩ := relM_no (v := v) (fz := fz) (fo := fo) (tz := tz) («to» := tq) (m := m) (part_no hg)
    rw [r1, r2]
    clear r1 r2
    generalize hST : stripe Ls b = ST at *
    rw [hg] at HP
    have c0 := Below.refl ((((w.alloc (mapRow a n c)).alloc (placeRow fz fo)).alloc (placeRow tz tq)).alloc (mapRow none 0 0)).heap.size ((((w.alloc (mapRow a n c)).alloc (placeRow fz fo)).alloc (placeRow tz tq)).alloc (mapRow none 0 0))
    clear hST hg hl hm
    go_enter Try.func23, Try.ntmps23
    generalize hw0 : (((w.alloc (mapRow a n c)).alloc (placeRow fz fo)).alloc (placeRow tz tq)).alloc (mapRow none 0 0) = w0 at *
    go_upto_region 1 with fail
    go_cut [14, 15] (fun s6 s7 wx => ∃ g : Nat, s6 = .pointer (some ⟨g, 0, none⟩) ∧ s7 = .bool false ∧ w0.heap.size ≤ g ∧ wx.heap[g]? = some (partRow a n c ST) ∧ Below w0.heap.size w0 wx)
    case first =>
      refine Tree.start (fun W => W.cell? ⟨w.heap.size, 0, none⟩ = some (.slice a n c)) (.take 0 (.take 1 (.take 2 (.fork 3 (.fork 4 (.take 5 (.take 6 (.take 7 (.only 8 (.only 9 (.take 10 (.done))))))) 8 (.only 4 (.take 5 (.take 6 (.take 7 (.only 9 (.take 10 (.done)))))))) 8 (.only 3 (.only 4 (.take 5 (.take 6 (.take 7 (.only 9 (.take 10 (.done)))))))))))) (by kernel_rfl) (by kernel_rfl) (by kernel_rfl) (by kernel_rfl) (map_row (e_on (c0.drew) hx0 (e_lt hx0))) ?_
      simp only [Tree.T.map, List.getElem?_toArray, List.getElem?_cons_zero, List.getElem?_cons_succ]
      repeat (first | (refine Tree.take ?_ (by rfl) ?_ ?_; rotate_left; (· rintro w9 u0; go_simp; (try rw [if_neg (by omega)]); all_goals (with_reducible rfl)); simp only [Act.put, List.setIfInBounds_toArray, List.set_cons_zero, List.set_cons_succ]))
      have c9 := c0.drew
      refine Tree.fork (by rfl) (by rfl) ?_ ?_
      · refine Tree.wp_call 29 _ ?_ (HS.out _ (hb0.trans (c9.mono hb0.size))) ?_
        · go_simp
        rintro e9 w1 ⟨rfl, h1⟩
        have c1 := c9.trans (h1.mono c9.size)
        refine ⟨_, rfl, (map_row (e_on (c1) hx0 (e_lt hx0))), ?_⟩
        simp only [Act.put, List.setIfInBounds_toArray, List.set_cons_zero, List.set_cons_succ]
        repeat (first | (refine Tree.take ?_ (by rfl) ?_ ?_; rotate_left; (· rintro w9 u0; go_simp; (try rw [if_neg (by omega)]); all_goals (with_reducible rfl)); simp only [Act.put, List.setIfInBounds_toArray, List.set_cons_zero, List.set_cons_succ]))
        refine Tree.fork (by rfl) (by rfl) ?_ ?_
        · refine Tree.wp_call 38 _ ?_ (HP.out _ (hb0.trans (c1.mono hb0.size))) ?_
          · go_simp
          rintro e9 w2 ⟨rfl, h2⟩
          have c2 := c1.trans (h2.mono c1.size)
          refine ⟨_, rfl, (map_row (e_on (c2) hx0 (e_lt hx0))), ?_⟩
          simp only [Act.put, List.setIfInBounds_toArray, List.set_cons_zero, List.set_cons_succ]
          repeat (first | (refine Tree.take ?_ (by rfl) ?_ ?_; rotate_left; (· rintro w9 u0; go_simp; (try rw [if_neg (by omega)]); all_goals (with_reducible rfl)); simp only [Act.put, List.setIfInBounds_toArray, List.set_cons_zero, List.set_cons_succ]))
          refine Tree.only (by rfl) ?_
          have g3 := heap_alloc_new w2 (partRow none 0 0 0)
          have c3 := c2.alloc c2.size (partRow none 0 0 0)
          have q3 : w0.heap.size ≤ (w2).heap.size := c2.size
          generalize hG3 : (w2).heap.size = G at *
          refine Tree.wp_make (.pointer (some ⟨G, 0, none⟩)) ((w2).alloc (partRow none 0 0 0)) ?_ ⟨map_row (e_on (c3) hx0 (e_lt hx0)), ?_⟩
          · rw [← hG3]; go_simp
          clear hG3
          generalize (w2).alloc (partRow none 0 0 0) = v3 at *
          simp only [Act.put, List.setIfInBounds_toArray, List.set_cons_zero, List.set_cons_succ]
          repeat (first | (refine Tree.take ?_ (by rfl) ?_ ?_; rotate_left; (· rintro w9 u0; go_simp; (try rw [if_neg (by omega)]); all_goals (with_reducible rfl)); simp only [Act.put, List.setIfInBounds_toArray, List.set_cons_zero, List.set_cons_succ]))
          have c4 := below_setRow c3 q3 #[.slice a n c, .int .i64 ST]
          have g4 := setRow_heap v3 G _ #[.slice a n c, .int .i64 ST] _ _ g3
          refine Tree.only (by rfl) (wp_store_row 70 _ _ rfl G #[.slice a n c, .int .i64 ST] (by rfl) (by rfl) 70 _ g3 part_info rfl (by simp [Value.oneCell']) ⟨map_row (e_on (c4) hx0 (e_lt hx0)), ?_⟩)
          simp only [Act.put]
          repeat (first | (refine Tree.take ?_ (by rfl) ?_ ?_; rotate_left; (· rintro w9 u0; go_simp; (try rw [if_neg (by omega)]); all_goals (with_reducible rfl)); simp only [Act.put, List.setIfInBounds_toArray, List.set_cons_zero, List.set_cons_succ]))
          refine Tree.ends ?_
          go_wp2_with fail
          go_meet
          exact ⟨G, rfl, rfl, q3, g4, c4⟩
        · have g2 := heap_alloc_new w1 (partRow none 0 0 0)
          have c2 := c1.alloc c1.size (partRow none 0 0 0)
          have q2 : w0.heap.size ≤ (w1).heap.size := c1.size
          generalize hG2 : (w1).heap.size = G at *
          refine Tree.wp_make (.pointer (some ⟨G, 0, none⟩)) ((w1).alloc (partRow none 0 0 0)) ?_ ⟨map_row (e_on (c2) hx0 (e_lt hx0)), ?_⟩
          · rw [← hG2]; go_simp
          clear hG2
          generalize (w1).alloc (partRow none 0 0 0) = v2 at *
          simp only [Act.put, List.setIfInBounds_toArray, List.set_cons_zero, List.set_cons_succ]
          repeat (first | (refine Tree.take ?_ (by rfl) ?_ ?_; rotate_left; (· rintro w9 u0; go_simp; (try rw [if_neg (by omega)]); all_goals (with_reducible rfl)); simp only [Act.put, List.setIfInBounds_toArray, List.set_cons_zero, List.set_cons_succ]))
          refine Tree.only (by rfl) ?_
          refine Tree.wp_call 38 _ ?_ (HP.out _ (hb0.trans (c2.mono hb0.size))) ?_
          · go_simp
          rintro e9 w3 ⟨rfl, h3⟩
          have c3 := c2.trans (h3.mono c2.size)
          have g3 := e_on h3 g2 (e_lt g2)
          refine ⟨_, rfl, (map_row (e_on (c3) hx0 (e_lt hx0))), ?_⟩
          simp only [Act.put, List.setIfInBounds_toArray, List.set_cons_zero, List.set_cons_succ]
          repeat (first | (refine Tree.take ?_ (by rfl) ?_ ?_; rotate_left; (· rintro w9 u0; go_simp; (try rw [if_neg (by omega)]); all_goals (with_reducible rfl)); simp only [Act.put, List.setIfInBounds_toArray, List.set_cons_zero, List.set_cons_succ]))
          have c4 := below_setRow c3 q2 #[.slice a n c, .int .i64 ST]
          have g4 := setRow_heap w3 G _ #[.slice a n c, .int .i64 ST] _ _ g3
          refine Tree.only (by rfl) (wp_store_row 70 _ _ rfl G #[.slice a n c, .int .i64 ST] (by rfl) (by rfl) 70 _ g3 part_info rfl (by simp [Value.oneCell']) ⟨map_row (e_on (c4) hx0 (e_lt hx0)), ?_⟩)
          simp only [Act.put]
          repeat (first | (refine Tree.take ?_ (by rfl) ?_ ?_; rotate_left; (· rintro w9 u0; go_simp; (try rw [if_neg (by omega)]); all_goals (with_reducible rfl)); simp only [Act.put, List.setIfInBounds_toArray, List.set_cons_zero, List.set_cons_succ]))
          refine Tree.ends ?_
          go_wp2_with fail
          go_meet
          exact ⟨G, rfl, rfl, q2, g4, c4⟩
      · have g1 : (w0.drew.alloc (partRow none 0 0 0)).heap[w0.heap.size]? = some (partRow none 0 0 0) := heap_alloc_new w0.drew (partRow none 0 0 0)
        have c1 := c9.alloc c9.size (partRow none 0 0 0)
        have q1 : w0.heap.size ≤ w0.heap.size := Nat.le_refl _
        refine Tree.wp_make (.pointer (some ⟨w0.heap.size, 0, none⟩)) (w0.drew.alloc (partRow none 0 0 0)) ?_ ⟨map_row (e_on (c1) hx0 (e_lt hx0)), ?_⟩
        · go_simp
        generalize w0.drew.alloc (partRow none 0 0 0) = v1 at *
        simp only [Act.put, List.setIfInBounds_toArray, List.set_cons_zero, List.set_cons_succ]
        repeat (first | (refine Tree.take ?_ (by rfl) ?_ ?_; rotate_left; (· rintro w9 u0; go_simp; (try rw [if_neg (by omega)]); all_goals (with_reducible rfl)); simp only [Act.put, List.setIfInBounds_toArray, List.set_cons_zero, List.set_cons_succ]))
        refine Tree.only (by rfl) ?_
        refine Tree.wp_call 29 _ ?_ (HS.out _ (hb0.trans (c1.mono hb0.size))) ?_
        · go_simp
        rintro e9 w2 ⟨rfl, h2⟩
        have c2 := c1.trans (h2.mono c1.size)
        have g2 := e_on h2 g1 (e_lt g1)
        refine ⟨_, rfl, (map_row (e_on (c2) hx0 (e_lt hx0))), ?_⟩
        simp only [Act.put, List.setIfInBounds_toArray, List.set_cons_zero, List.set_cons_succ]
        repeat (first | (refine Tree.take ?_ (by rfl) ?_ ?_; rotate_left; (· rintro w9 u0; go_simp; (try rw [if_neg (by omega)]); all_goals (with_reducible rfl)); simp only [Act.put, List.setIfInBounds_toArray, List.set_cons_zero, List.set_cons_succ]))
        refine Tree.only (by rfl) ?_
        refine Tree.wp_call 38 _ ?_ (HP.out _ (hb0.trans (c2.mono hb0.size))) ?_
        · go_simp
        rintro e9 w3 ⟨rfl, h3⟩
        have c3 := c2.trans (h3.mono c2.size)
        have g3 := e_on h3 g2 (e_lt g2)
        refine ⟨_, rfl, (map_row (e_on (c3) hx0 (e_lt hx0))), ?_⟩
        simp only [Act.put, List.setIfInBounds_toArray, List.set_cons_zero, List.set_cons_succ]
        repeat (first | (refine Tree.take ?_ (by rfl) ?_ ?_; rotate_left; (· rintro w9 u0; go_simp; (try rw [if_neg (by omega)]); all_goals (with_reducible rfl)); simp only [Act.put, List.setIfInBounds_toArray, List.set_cons_zero, List.set_cons_succ]))
        have c4 := below_setRow c3 q1 #[.slice a n c, .int .i64 ST]
        have g4 := setRow_heap w3 w0.heap.size _ #[.slice a n c, .int .i64 ST] _ _ g3
        refine Tree.only (by rfl) (wp_store_row 70 _ _ rfl w0.heap.size #[.slice a n c, .int .i64 ST] (by rfl) (by rfl) 70 _ g3 part_info rfl (by simp [Value.oneCell']) ⟨map_row (e_on (c4) hx0 (e_lt hx0)), ?_⟩)
        simp only [Act.put]
        repeat (first | (refine Tree.take ?_ (by rfl) ?_ ?_; rotate_left; (· rintro w9 u0; go_simp; (try rw [if_neg (by omega)]); all_goals (with_reducible rfl)); simp only [Act.put, List.setIfInBounds_toArray, List.set_cons_zero, List.set_cons_succ]))
        refine Tree.ends ?_
        go_wp2_with fail
        go_meet
        exact ⟨w0.heap.size, rfl, rfl, q1, g4, c4⟩
    case rest =>
      obtain ⟨g, rfl, rfl, hg, hgr, hc1⟩ := hcut
      have hr1 := e_on hc1 hr0 (e_lt hr0)
      have hx1 := e_on hc1 hx0 (e_lt hx0)
      have b1 := hb0.trans (hc1.mono hb0.size)
      go_wp2_with (first
        | ((with_reducible refine Plan.load_lit 24 (.tmp 6) w.heap.size ?_ hx1 Try.underlying24 ?_ ?_ ?_); (· rfl); (· rfl); (· exact map_info); simp only [Act.put, List.setIfInBounds_toArray, List.set_cons_zero, List.set_cons_succ])
        | ((with_reducible refine Plan.store_lit 24 (.tmp 12) _ (w.heap.size + 3) ?_ hr1 ?_ ?_ ?_ ?_ ?_ ?_); rotate_left; (· rfl); (· rfl); (· exact map_info); (· rfl); (· simp [Value.oneCell']); simp only [Act.put]))
      exact bodyPost_ret (Plan.results_cell_tmp (p := 12) (q := 13) rfl _ _ _ _ _ _ _ rfl (setRow_heap _ _ _ _ _ _ hr1) Try.underlying24 rfl map_info) rfl ⟨_, _, _, rfl, HEND.out _ b1 _, below_setRow b1 (show w.heap.size ≤ w.heap.size + 3 by omega) _⟩
  · obtain ⟨hva, h0⟩ := part_yes hg
    obtain ⟨r1, r2⟩ := relM_at (v := v) (fz := fz) (fo := fo) (tz := tz) («to» := tq) (m := m) hva h0
    rw [r2, r1]
    clear r1 r2
    have hst := st_lt hva b
    rw [hlen] at hst
    have hat := shard_at hva b
    obtain ⟨x, L, b', m', kk, rfl, hL, hcc, hle⟩ := hl.at' (st Ls b) hst
    rw [hat] at hL
    obtain rfl := Option.some.inj hL
    have hn8 := (validM_iff.1 hva).1.2
    have hme := flat_each (hm hn8) _ (List.mem_of_getElem? hat)
    rw [hle.length] at hme
    have HPIN := Lib.hid (pinF hcc hle)
    have hxlt : x.block < w.heap.size := by
      have := World.block_lt_of_cell? w _ hcc
      rwa [ent_add_block] at this
    have HLI := Lib.hid (fun W (h : Below w.heap.size w W) => plist_any x n c (st Ls b) b' m' kk W hst (Nat.lt_of_lt_of_le hxlt h.size) (HPIN.out W h).1)
    have HRE := Lib.hid (fun W (h : Below w.heap.size w W) => relocate_any _ (shardOf Ls b) b v fz fo tz tq m b' m' kk W (HPIN.out W h).2 (by omega))
    have HML := Lib.hid (fun W W' (h : Below w.heap.size w W) (h2 : Below W.heap.size W W') => (show MList W' (Plus (fun b => F b ∧ b < w.heap.size) W.heap.size) (some x) n c Ls from
      ((hl.cut.on (Same.below h)).on (Same.below h2)).mono fun _ _ h => .inl h))
    rw [stripe_eq hva h0] at HS HP
    unfold RelPost at HRE
    generalize moves (shardOf Ls b) b v fz fo tz tq m = MV at *
    generalize relocL (shardOf Ls b) b v fz fo tz tq m = RL at *
    have hn1000 : n ≤ 1000 := by omega
    clear hva h0 hat hcc hle hme hl hm hn8
    generalize hSt : st Ls b = k at *
    clear hSt
    have HT := Lib.hid (fun (h : MV = true) => (if_pos h : (if MV = true then Ls.set k RL else Ls) = Ls.set k RL))
    have HF := Lib.hid (fun (h : MV = false) => (if_neg (by rw [h]; decide) : (if MV = true then Ls.set k RL else Ls) = Ls))
    generalize (if MV = true then Ls.set k RL else Ls) = RS at *
    generalize hST : (k : Int) = ST at HS HP
    rw [hg] at HP
    have c0 := Below.refl ((((w.alloc (mapRow (some x) n c)).alloc (placeRow fz fo)).alloc (placeRow tz tq)).alloc (mapRow none 0 0)).heap.size ((((w.alloc (mapRow (some x) n c)).alloc (placeRow fz fo)).alloc (placeRow tz tq)).alloc (mapRow none 0 0))
    clear hg
    go_enter Try.func23, Try.ntmps23
    generalize hw0 : (((w.alloc (mapRow (some x) n c)).alloc (placeRow fz fo)).alloc (placeRow tz tq)).alloc (mapRow none 0 0) = w0 at *
    go_upto_region 1 with fail
    go_cut [14, 15] (fun s6 s7 wx => ∃ g : Nat, s6 = .pointer (some ⟨g, 0, none⟩) ∧ s7 = .bool true ∧ w0.heap.size ≤ g ∧ wx.heap[g]? = some (partRow (some x) n c ST) ∧ Below w0.heap.size w0 wx)
    case first =>
      refine Tree.start (fun W => W.cell? ⟨w.heap.size, 0, none⟩ = some (.slice (some x) n c)) (.take 0 (.take 1 (.take 2 (.fork 3 (.fork 4 (.take 5 (.take 6 (.take 7 (.only 8 (.only 9 (.take 10 (.done))))))) 8 (.only 4 (.take 5 (.take 6 (.take 7 (.only 9 (.take 10 (.done)))))))) 8 (.only 3 (.only 4 (.take 5 (.take 6 (.take 7 (.only 9 (.take 10 (.done)))))))))))) (by kernel_rfl) (by kernel_rfl) (by kernel_rfl) (by kernel_rfl) (map_row (e_on (c0.drew) hx0 (e_lt hx0))) ?_
      simp only [Tree.T.map, List.getElem?_toArray, List.getElem?_cons_zero, List.getElem?_cons_succ]
      repeat (first | (refine Tree.take ?_ (by rfl) ?_ ?_; rotate_left; (· rintro w9 u0; go_simp; (try rw [if_neg (by omega)]); all_goals (with_reducible rfl)); simp only [Act.put, List.setIfInBounds_toArray, List.set_cons_zero, List.set_cons_succ]))
      have c9 := c0.drew
      refine Tree.fork (by rfl) (by rfl) ?_ ?_
      · refine Tree.wp_call 29 _ ?_ (HS.out _ (hb0.trans (c9.mono hb0.size))) ?_
        · go_simp
        rintro e9 w1 ⟨rfl, h1⟩
        have c1 := c9.trans (h1.mono c9.size)
        refine ⟨_, rfl, (map_row (e_on (c1) hx0 (e_lt hx0))), ?_⟩
        simp only [Act.put, List.setIfInBounds_toArray, List.set_cons_zero, List.set_cons_succ]
        repeat (first | (refine Tree.take ?_ (by rfl) ?_ ?_; rotate_left; (· rintro w9 u0; go_simp; (try rw [if_neg (by omega)]); all_goals (with_reducible rfl)); simp only [Act.put, List.setIfInBounds_toArray, List.set_cons_zero, List.set_cons_succ]))
        refine Tree.fork (by rfl) (by rfl) ?_ ?_
        · refine Tree.wp_call 38 _ ?_ (HP.out _ (hb0.trans (c1.mono hb0.size))) ?_
          · go_simp
          rintro e9 w2 ⟨rfl, h2⟩
          have c2 := c1.trans (h2.mono c1.size)
          refine ⟨_, rfl, (map_row (e_on (c2) hx0 (e_lt hx0))), ?_⟩
          simp only [Act.put, List.setIfInBounds_toArray, List.set_cons_zero, List.set_cons_succ]
          repeat (first | (refine Tree.take ?_ (by rfl) ?_ ?_; rotate_left; (· rintro w9 u0; go_simp; (try rw [if_neg (by omega)]); all_goals (with_reducible rfl)); simp only [Act.put, List.setIfInBounds_toArray, List.set_cons_zero, List.set_cons_succ]))
          refine Tree.only (by rfl) ?_
          have g3 := heap_alloc_new w2 (partRow none 0 0 0)
          have c3 := c2.alloc c2.size (partRow none 0 0 0)
          have q3 : w0.heap.size ≤ (w2).heap.size := c2.size
          generalize hG3 : (w2).heap.size = G at *
          refine Tree.wp_make (.pointer (some ⟨G, 0, none⟩)) ((w2).alloc (partRow none 0 0 0)) ?_ ⟨map_row (e_on (c3) hx0 (e_lt hx0)), ?_⟩
          · rw [← hG3]; go_simp
          clear hG3
          generalize (w2).alloc (partRow none 0 0 0) = v3 at *
          simp only [Act.put, List.setIfInBounds_toArray, List.set_cons_zero, List.set_cons_succ]
          repeat (first | (refine Tree.take ?_ (by rfl) ?_ ?_; rotate_left; (· rintro w9 u0; go_simp; (try rw [if_neg (by omega)]); all_goals (with_reducible rfl)); simp only [Act.put, List.setIfInBounds_toArray, List.set_cons_zero, List.set_cons_succ]))
          have c4 := below_setRow c3 q3 #[.slice (some x) n c, .int .i64 ST]
          have g4 := setRow_heap v3 G _ #[.slice (some x) n c, .int .i64 ST] _ _ g3
          refine Tree.only (by rfl) (wp_store_row 70 _ _ rfl G #[.slice (some x) n c, .int .i64 ST] (by rfl) (by rfl) 70 _ g3 part_info rfl (by simp [Value.oneCell']) ⟨map_row (e_on (c4) hx0 (e_lt hx0)), ?_⟩)
          simp only [Act.put]
          repeat (first | (refine Tree.take ?_ (by rfl) ?_ ?_; rotate_left; (· rintro w9 u0; go_simp; (try rw [if_neg (by omega)]); all_goals (with_reducible rfl)); simp only [Act.put, List.setIfInBounds_toArray, List.set_cons_zero, List.set_cons_succ]))
          refine Tree.ends ?_
          go_wp2_with fail
          go_meet
          exact ⟨G, rfl, rfl, q3, g4, c4⟩
        · have g2 := heap_alloc_new w1 (partRow none 0 0 0)
          have c2 := c1.alloc c1.size (partRow none 0 0 0)
          have q2 : w0.heap.size ≤ (w1).heap.size := c1.size
          generalize hG2 : (w1).heap.size = G at *
          refine Tree.wp_make (.pointer (some ⟨G, 0, none⟩)) ((w1).alloc (partRow none 0 0 0)) ?_ ⟨map_row (e_on (c2) hx0 (e_lt hx0)), ?_⟩
          · rw [← hG2]; go_simp
          clear hG2
          generalize (w1).alloc (partRow none 0 0 0) = v2 at *
          simp only [Act.put, List.setIfInBounds_toArray, List.set_cons_zero, List.set_cons_succ]
          repeat (first | (refine Tree.take ?_ (by rfl) ?_ ?_; rotate_left; (· rintro w9 u0; go_simp; (try rw [if_neg (by omega)]); all_goals (with_reducible rfl)); simp only [Act.put, List.setIfInBounds_toArray, List.set_cons_zero, List.set_cons_succ]))
          refine Tree.only (by rfl) ?_
          refine Tree.wp_call 38 _ ?_ (HP.out _ (hb0.trans (c2.mono hb0.size))) ?_
          · go_simp
          rintro e9 w3 ⟨rfl, h3⟩
          have c3 := c2.trans (h3.mono c2.size)
          have g3 := e_on h3 g2 (e_lt g2)
          refine ⟨_, rfl, (map_row (e_on (c3) hx0 (e_lt hx0))), ?_⟩
          simp only [Act.put, List.setIfInBounds_toArray, List.set_cons_zero, List.set_cons_succ]
          repeat (first | (refine Tree.take ?_ (by rfl) ?_ ?_; rotate_left; (· rintro w9 u0; go_simp; (try rw [if_neg (by omega)]); all_goals (with_reducible rfl)); simp only [Act.put, List.setIfInBounds_toArray, List.set_cons_zero, List.set_cons_succ]))
          have c4 := below_setRow c3 q2 #[.slice (some x) n c, .int .i64 ST]
          have g4 := setRow_heap w3 G _ #[.slice (some x) n c, .int .i64 ST] _ _ g3
          refine Tree.only (by rfl) (wp_store_row 70 _ _ rfl G #[.slice (some x) n c, .int .i64 ST] (by rfl) (by rfl) 70 _ g3 part_info rfl (by simp [Value.oneCell']) ⟨map_row (e_on (c4) hx0 (e_lt hx0)), ?_⟩)
          simp only [Act.put]
          repeat (first | (refine Tree.take ?_ (by rfl) ?_ ?_; rotate_left; (· rintro w9 u0; go_simp; (try rw [if_neg (by omega)]); all_goals (with_reducible rfl)); simp only [Act.put, List.setIfInBounds_toArray, List.set_cons_zero, List.set_cons_succ]))
          refine Tree.ends ?_
          go_wp2_with fail
          go_meet
          exact ⟨G, rfl, rfl, q2, g4, c4⟩
      · have g1 : (w0.drew.alloc (partRow none 0 0 0)).heap[w0.heap.size]? = some (partRow none 0 0 0) := heap_alloc_new w0.drew (partRow none 0 0 0)
        have c1 := c9.alloc c9.size (partRow none 0 0 0)
        have q1 : w0.heap.size ≤ w0.heap.size := Nat.le_refl _
        refine Tree.wp_make (.pointer (some ⟨w0.heap.size, 0, none⟩)) (w0.drew.alloc (partRow none 0 0 0)) ?_ ⟨map_row (e_on (c1) hx0 (e_lt hx0)), ?_⟩
        · go_simp
        generalize w0.drew.alloc (partRow none 0 0 0) = v1 at *
        simp only [Act.put, List.setIfInBounds_toArray, List.set_cons_zero, List.set_cons_succ]
        repeat (first | (refine Tree.take ?_ (by rfl) ?_ ?_; rotate_left; (· rintro w9 u0; go_simp; (try rw [if_neg (by omega)]); all_goals (with_reducible rfl)); simp only [Act.put, List.setIfInBounds_toArray, List.set_cons_zero, List.set_cons_succ]))
        refine Tree.only (by rfl) ?_
        refine Tree.wp_call 29 _ ?_ (HS.out _ (hb0.trans (c1.mono hb0.size))) ?_
        · go_simp
        rintro e9 w2 ⟨rfl, h2⟩
        have c2 := c1.trans (h2.mono c1.size)
        have g2 := e_on h2 g1 (e_lt g1)
        refine ⟨_, rfl, (map_row (e_on (c2) hx0 (e_lt hx0))), ?_⟩
        simp only [Act.put, List.setIfInBounds_toArray, List.set_cons_zero, List.set_cons_succ]
        repeat (first | (refine Tree.take ?_ (by rfl) ?_ ?_; rotate_left; (· rintro w9 u0; go_simp; (try rw [if_neg (by omega)]); all_goals (with_reducible rfl)); simp only [Act.put, List.setIfInBounds_toArray, List.set_cons_zero, List.set_cons_succ]))
        refine Tree.only (by rfl) ?_
        refine Tree.wp_call 38 _ ?_ (HP.out _ (hb0.trans (c2.mono hb0.size))) ?_
        · go_simp
        rintro e9 w3 ⟨rfl, h3⟩
        have c3 := c2.trans (h3.mono c2.size)
        have g3 := e_on h3 g2 (e_lt g2)
        refine ⟨_, rfl, (map_row (e_on (c3) hx0 (e_lt hx0))), ?_⟩
        simp only [Act.put, List.setIfInBounds_toArray, List.set_cons_zero, List.set_cons_succ]
        repeat (first | (refine Tree.take ?_ (by rfl) ?_ ?_; rotate_left; (· rintro w9 u0; go_simp; (try rw [if_neg (by omega)]); all_goals (with_reducible rfl)); simp only [Act.put, List.setIfInBounds_toArray, List.set_cons_zero, List.set_cons_succ]))
        have c4 := below_setRow c3 q1 #[.slice (some x) n c, .int .i64 ST]
        have g4 := setRow_heap w3 w0.heap.size _ #[.slice (some x) n c, .int .i64 ST] _ _ g3
        refine Tree.only (by rfl) (wp_store_row 70 _ _ rfl w0.heap.size #[.slice (some x) n c, .int .i64 ST] (by rfl) (by rfl) 70 _ g3 part_info rfl (by simp [Value.oneCell']) ⟨map_row (e_on (c4) hx0 (e_lt hx0)), ?_⟩)
        simp only [Act.put]
        repeat (first | (refine Tree.take ?_ (by rfl) ?_ ?_; rotate_left; (· rintro w9 u0; go_simp; (try rw [if_neg (by omega)]); all_goals (with_reducible rfl)); simp only [Act.put, List.setIfInBounds_toArray, List.set_cons_zero, List.set_cons_succ]))
        refine Tree.ends ?_
        go_wp2_with fail
        go_meet
        exact ⟨w0.heap.size, rfl, rfl, q1, g4, c4⟩
    case rest =>
      obtain ⟨g, rfl, rfl, hg, hgr, hc1⟩ := hcut
      have hr1 := e_on hc1 hr0 (e_lt hr0)
      have hx1 := e_on hc1 hx0 (e_lt hx0)
      have hp1 := e_on hc1 hp0 (e_lt hp0)
      have hq1 := e_on hc1 hq0 (e_lt hq0)
      have b1 := hb0.trans (hc1.mono hb0.size)
      have hs0 := e_lt hr0
      rw [← hST] at hgr
      clear hST
      go_wp2_with fail
      refine Plan.start (fun W => (W.cell? ⟨g, 0, none⟩ = some (.slice (some x) n c) ∧ W.cell? ⟨g, 1, none⟩ = some (.int .i64 k)) ∧ (W.cell? ⟨w.heap.size + 1, 0, none⟩ = some (.int .i64 fz) ∧ W.cell? ⟨w.heap.size + 1, 1, none⟩ = some (.int .i64 fo)) ∧ W.cell? ⟨w.heap.size + 2, 0, none⟩ = some (.int .i64 tz) ∧ W.cell? ⟨w.heap.size + 2, 1, none⟩ = some (.int .i64 tq)) [(0, true), (2, true), (3, true), (4, true), (5, true), (6, true), (1, false), (7, false), (8, true), (9, true), (10, true), (11, true), (12, true)] (by kernel_rfl) (by kernel_rfl) (by kernel_rfl) (by kernel_rfl) ⟨part_row hgr, place_row hp1, place_row hq1⟩ ?_
      simp only [List.map_cons, List.map_nil, List.getElem?_toArray, List.getElem?_cons_zero, List.getElem?_cons_succ]
      repeat (first | (refine Plan.take ?_ (by rfl) ?_ ?_; rotate_left; (· rintro w9 ⟨⟨u0, u1⟩, ⟨u2, u3⟩, u4, u5⟩; go_simp; (try rw [if_neg (by omega)]); all_goals (with_reducible rfl)); simp only [Act.put, List.setIfInBounds_toArray, List.set_cons_zero, List.set_cons_succ]) | (refine Plan.pass (by rfl) ?_; simp only [Act.put, List.setIfInBounds_toArray, List.set_cons_zero, List.set_cons_succ]))
      refine Plan.call (by rfl) 40 _ ?_ (HLI.out _ b1.drew) ?_
      · go_simp
      rintro e9 w2 ⟨rfl, h2⟩
      have b2 := b1.drew.trans (h2.mono b1.drew.size)
      have hr2 := e_on h2 (show wc.drew.heap[w.heap.size + 3]? = _ from hr1) (e_lt hr1)
      have hx2 := e_on h2 (show wc.drew.heap[w.heap.size]? = _ from hx1) (e_lt hx1)
      have hp2 := e_on h2 (show wc.drew.heap[w.heap.size + 1]? = _ from hp1) (e_lt hp1)
      have hq2 := e_on h2 (show wc.drew.heap[w.heap.size + 2]? = _ from hq1) (e_lt hq1)
      have hg2 := e_on h2 (show wc.drew.heap[g]? = _ from hgr) (e_lt hgr)
      refine ⟨_, rfl, ⟨part_row hg2, place_row hp2, place_row hq2⟩, ?_⟩
      simp only [Act.put, List.setIfInBounds_toArray, List.set_cons_zero, List.set_cons_succ]
      repeat (first | (refine Plan.take ?_ (by rfl) ?_ ?_; rotate_left; (· rintro w9 ⟨⟨u0, u1⟩, ⟨u2, u3⟩, u4, u5⟩; go_simp; (try rw [if_neg (by omega)]); all_goals (with_reducible rfl)); simp only [Act.put, List.setIfInBounds_toArray, List.set_cons_zero, List.set_cons_succ]) | (refine Plan.pass (by rfl) ?_; simp only [Act.put, List.setIfInBounds_toArray, List.set_cons_zero, List.set_cons_succ]))
      refine Plan.call (by rfl) 43 _ ?_ (HRE.out _ b2) ?_
      · go_simp
      rintro e9 w3 ⟨a3, n3, k3, rfl, l3, h3⟩
      have b3 := b2.trans (h3.mono b2.size)
      have hr3 := e_on h3 hr2 (e_lt hr2)
      have hx3 := e_on h3 hx2 (e_lt hx2)
      have hp3 := e_on h3 hp2 (e_lt hp2)
      have hq3 := e_on h3 hq2 (e_lt hq2)
      have hg3 := e_on h3 hg2 (e_lt hg2)
      refine ⟨_, rfl, ⟨part_row hg3, place_row hp3, place_row hq3⟩, ?_⟩
      simp only [Act.put, List.setIfInBounds_toArray, List.set_cons_zero, List.set_cons_succ]
      repeat (first | (refine Plan.take ?_ (by rfl) ?_ ?_; rotate_left; (· rintro w9 ⟨⟨u0, u1⟩, ⟨u2, u3⟩, u4, u5⟩; go_simp; (try rw [if_neg (by omega)]); all_goals (with_reducible rfl)); simp only [Act.put, List.setIfInBounds_toArray, List.set_cons_zero, List.set_cons_succ]) | (refine Plan.pass (by rfl) ?_; simp only [Act.put, List.setIfInBounds_toArray, List.set_cons_zero, List.set_cons_succ]))
      refine Plan.ends ?_
      clear hr1 hx1 hp1 hq1 hr2 hx2 hp2 hq2 hp3 hq3 hgr hg2
      have HW := Lib.hid (pwith_any _ Ls (some x) n c k RL a3 n3 k3 w3 (HML.out _ _ b2 h3) hst l3 hn1000)
      cases MV
      · have hRS := Lib.hid (HF.out rfl)
        clear HT HF
        go_wp2_with (first
          | ((with_reducible refine Plan.load_lit 24 (.tmp 6) w.heap.size ?_ hx3 Try.underlying24 ?_ ?_ ?_); (· rfl); (· rfl); (· exact map_info); simp only [Act.put, List.setIfInBounds_toArray, List.set_cons_zero, List.set_cons_succ])
          | ((with_reducible refine Plan.store_lit 24 (.tmp 12) _ (w.heap.size + 3) ?_ hr3 ?_ ?_ ?_ ?_ ?_ ?_); rotate_left; (· rfl); (· rfl); (· exact map_info); (· rfl); (· simp [Value.oneCell']); simp only [Act.put]))
        exact bodyPost_ret (Plan.results_cell_tmp (p := 12) (q := 13) rfl _ _ _ _ _ _ _ rfl (setRow_heap _ _ _ _ _ _ hr3) Try.underlying24 rfl map_info) rfl ⟨_, _, _, rfl, by rw [hRS.out]; exact HEND.out _ b3 _, below_setRow b3 (show w.heap.size ≤ w.heap.size + 3 by omega) _⟩
      · have hRS := Lib.hid (HT.out rfl)
        clear HT HF
        have hs2 := e_lt hr3
        have hs3 := b2.size
        have hs4 := h3.size
        have hs5 := h2.size
        have hs6 : w.heap.size + 3 < w2.heap.size := Nat.lt_of_lt_of_le (Nat.lt_of_lt_of_le hs0 hc1.size) hs5
        go_wp2_with (first
          | ((with_reducible refine Plan.load_lit 70 (.tmp 14) g ?_ hg3 Try.underlying70 ?_ ?_ ?_); (· rfl); (· rfl); (· exact part_info); simp only [Act.put, List.setIfInBounds_toArray, List.set_cons_zero, List.set_cons_succ])
          | (go_at_call 41; ((with_reducible refine HW.out.mono ?_); rintro r9 w4 ⟨g4, c4, rfl, l4, h4⟩; have hr4 := e_on h4 hr3 (e_lt hr3); have b4 := b3.trans (h4.mono b3.size)))
          | ((with_reducible refine Plan.store_lit 24 (.tmp 12) _ (w.heap.size + 3) ?_ hr4 ?_ ?_ ?_ ?_ ?_ ?_); rotate_left; (· rfl); (· rfl); (· exact map_info); (· rfl); (· simp [Value.oneCell']); simp only [Act.put]))
        have hN : ∀ b, Plus (Plus (fun b => F b ∧ b < w.heap.size) w2.heap.size) w3.heap.size b → b ≠ w.heap.size + 3 ∧ Plus F w.heap.size b := fun b h => by
          rcases h with (h | h) | h
          · exact ⟨by have := h.2; omega, .inl h.1⟩
          · exact ⟨by omega, .inr (by omega)⟩
          · exact ⟨by omega, .inr (by omega)⟩
        have M9 := (l4.on (Same.row (r := w.heap.size + 3) (fun h9 => (hN _ h9).1 rfl) #[.slice (some ⟨g4, 0, none⟩) n c4])).mono (G := Plus F w.heap.size) (fun b _ h9 => (hN b h9).2)
        exact bodyPost_ret (Plan.results_cell_tmp (p := 12) (q := 13) rfl _ _ _ _ _ _ _ rfl (setRow_heap _ _ _ _ _ _ hr4) Try.underlying24 rfl map_info) rfl ⟨_, _, _, rfl, by rw [hRS.out]; exact M9, below_setRow b4 (show w.heap.size ≤ w.heap.size + 3 by omega) _⟩
end Go.Proofs.Ytljobnfilnbefaa.Ents

/- The walk of the program's Install of a map; what the program keeps. -/
namespace Go.Proofs.Ytljobnfilnbefaa.Ents
open Go.RowKit Plan EntMath
set_option maxHeartbeats 16000000 in
set_option maxRecDepth 20000 in
theorem minstall_any (F : Nat → Prop) (Ls : List (List Ent)) (e : Ent) (a : Option Addr) (n c : Nat) (w : World) (hl : MList w F a n c Ls) (hm : Near Ls) :
    Calls Try.prog 24 #[mapV a n c, entV e] w (InstMPost w F (installM Ls e) (installME Ls e) (newerM Ls e)) := by
  have hlen := hl.length
  obtain ⟨eb, ek, ev, em, ez, eo⟩ := e
  have hb0 : Below w.heap.size w ((((w.alloc (mapRow a n c)).alloc (entRow eb ek ev em ez eo)).alloc (mapRow none 0 0)).alloc (entRow 0 0 0 0 0 0)) := ((((Below.refl w.heap.size w).alloc (Nat.le_refl _) _).alloc (by simp) _).alloc (by simp; omega) _).alloc (by simp; omega) _
  obtain ⟨hx0, he0, hq0, hr0⟩ := heap4 w (mapRow a n c) (entRow eb ek ev em ez eo) (mapRow none 0 0) (entRow 0 0 0 0 0 0)
  have HS := Lib.hid (fun W (h : Below w.heap.size w W) => stripe_any _ Ls eb a n c W (hl.same h))
  have HP := Lib.hid (fun W (h : Below w.heap.size w W) => partOf_any _ Ls (stripe Ls eb) a n c W (hl.same h))
  rw [part_stripe] at HP
  have HEND := Lib.hid (fun W (h : Below w.heap.size w W) (cs cs2 : Array Value) => (show MList ((W.setRow (w.heap.size + 2) cs).setRow (w.heap.size + 3) cs2) (Plus F w.heap.size) a n c Ls from
    (((hl.cut.on (Same.below (w' := W) h)).on (Same.row (r := w.heap.size + 2) (fun h9 => by have := h9.2; omega) cs)).on (Same.row (r := w.heap.size + 3) (fun h9 => by have := h9.2; omega) cs2)).mono (fun b _ h => .inl h.1)))
  cases hg : (validM Ls && decide (0 ≤ eb))
  · obtain ⟨r1, r2, r3⟩ := instM_no (Ls := Ls) (e := ⟨eb, ek, ev, em, ez, eo⟩) (part_no hg)
    rw [r1, r2, r3]
    clear r1 r2 r3
    generalize hST : stripe Ls eb = ST at *
    rw [hg] at HP
    have c0 := Below.refl ((((w.alloc (mapRow a n c)).alloc (entRow eb ek ev em ez eo)).alloc (mapRow none 0 0)).alloc (entRow 0 0 0 0 0 0)).heap.size ((((w.alloc (mapRow a n c)).alloc (entRow eb ek ev em ez eo)).alloc (mapRow none 0 0)).alloc (entRow 0 0 0 0 0 0))
    clear hST hg hl hm
    go_enter Try.func24, Try.ntmps24
    generalize hw0 : (((w.alloc (mapRow a n c)).alloc (entRow eb ek ev em ez eo)).alloc (mapRow none 0 0)).alloc (entRow 0 0 0 0 0 0) = w0 at *
    go_upto_region 1 with fail
    go_cut [7, 8] (fun s6 s7 wx => ∃ g : Nat, s6 = .pointer (some ⟨g, 0, none⟩) ∧ s7 = .bool false ∧ w0.heap.size ≤ g ∧ wx.heap[g]? = some (partRow a n c ST) ∧ Below w0.heap.size w0 wx)
    case first =>
      refine Tree.start (fun W => W.cell? ⟨w.heap.size, 0, none⟩ = some (.slice a n c) ∧ W.cell? ⟨w.heap.size + 1, 0, none⟩ = some (.int .i64 eb)) (.take 0 (.take 1 (.take 2 (.take 3 (.fork 4 (.fork 5 (.take 6 (.take 7 (.take 8 (.only 9 (.only 10 (.take 11 (.done))))))) 9 (.only 5 (.take 6 (.take 7 (.take 8 (.only 10 (.take 11 (.done)))))))) 9 (.only 4 (.only 5 (.take 6 (.take 7 (.take 8 (.only 10 (.take 11 (.done))))))))))))) (by kernel_rfl) (by kernel_rfl) (by kernel_rfl) (by kernel_rfl) (⟨map_row (e_on (c0.drew) hx0 (e_lt hx0)), (entry_row (e_on (c0.drew) he0 (e_lt he0))).1⟩) ?_
      simp only [Tree.T.map, List.getElem?_toArray, List.getElem?_cons_zero, List.getElem?_cons_succ]
      repeat (first | (refine Tree.take ?_ (by rfl) ?_ ?_; rotate_left; (· rintro w9 ⟨u0, u1⟩; go_simp; (try rw [if_neg (by omega)]); all_goals (with_reducible rfl)); simp only [Act.put, List.setIfInBounds_toArray, List.set_cons_zero, List.set_cons_succ]))
      have c9 := c0.drew
      refine Tree.fork (by rfl) (by rfl) ?_ ?_
      · refine Tree.wp_call 29 _ ?_ (HS.out _ (hb0.trans (c9.mono hb0.size))) ?_
        · go_simp
        rintro e9 w1 ⟨rfl, h1⟩
        have c1 := c9.trans (h1.mono c9.size)
        refine ⟨_, rfl, (⟨map_row (e_on (c1) hx0 (e_lt hx0)), (entry_row (e_on (c1) he0 (e_lt he0))).1⟩), ?_⟩
        simp only [Act.put, List.setIfInBounds_toArray, List.set_cons_zero, List.set_cons_succ]
        repeat (first | (refine Tree.take ?_ (by rfl) ?_ ?_; rotate_left; (· rintro w9 ⟨u0, u1⟩; go_simp; (try rw [if_neg (by omega)]); all_goals (with_reducible rfl)); simp only [Act.put, List.setIfInBounds_toArray, List.set_cons_zero, List.set_cons_succ]))
        refine Tree.fork (by rfl) (by rfl) ?_ ?_
        · refine Tree.wp_call 38 _ ?_ (HP.out _ (hb0.trans (c1.mono hb0.size))) ?_
          · go_simp
          rintro e9 w2 ⟨rfl, h2⟩
          have c2 := c1.trans (h2.mono c1.size)
          refine ⟨_, rfl, (⟨map_row (e_on (c2) hx0 (e_lt hx0)), (entry_row (e_on (c2) he0 (e_lt he0))).1⟩), ?_⟩
          simp only [Act.put, List.setIfInBounds_toArray, List.set_cons_zero, List.set_cons_succ]
          repeat (first | (refine Tree.take ?_ (by rfl) ?_ ?_; rotate_left; (· rintro w9 ⟨u0, u1⟩; go_simp; (try rw [if_neg (by omega)]); all_goals (with_reducible rfl)); simp only [Act.put, List.setIfInBounds_toArray, List.set_cons_zero, List.set_cons_succ]))
          refine Tree.only (by rfl) ?_
          have g3 := heap_alloc_new w2 (partRow none 0 0 0)
          have c3 := c2.alloc c2.size (partRow none 0 0 0)
          have q3 : w0.heap.size ≤ (w2).heap.size := c2.size
          generalize hG3 : (w2).heap.size = G at *
          refine Tree.wp_make (.pointer (some ⟨G, 0, none⟩)) ((w2).alloc (partRow none 0 0 0)) ?_ ⟨⟨map_row (e_on (c3) hx0 (e_lt hx0)), (entry_row (e_on (c3) he0 (e_lt he0))).1⟩, ?_⟩
          · rw [← hG3]; go_simp
          clear hG3
          generalize (w2).alloc (partRow none 0 0 0) = v3 at *
          simp only [Act.put, List.setIfInBounds_toArray, List.set_cons_zero, List.set_cons_succ]
          repeat (first | (refine Tree.take ?_ (by rfl) ?_ ?_; rotate_left; (· rintro w9 ⟨u0, u1⟩; go_simp; (try rw [if_neg (by omega)]); all_goals (with_reducible rfl)); simp only [Act.put, List.setIfInBounds_toArray, List.set_cons_zero, List.set_cons_succ]))
          have c4 := below_setRow c3 q3 #[.slice a n c, .int .i64 ST]
          have g4 := setRow_heap v3 G _ #[.slice a n c, .int .i64 ST] _ _ g3
          refine Tree.only (by rfl) (wp_store_row 70 _ _ rfl G #[.slice a n c, .int .i64 ST] (by rfl) (by rfl) 70 _ g3 part_info rfl (by simp [Value.oneCell']) ⟨⟨map_row (e_on (c4) hx0 (e_lt hx0)), (entry_row (e_on (c4) he0 (e_lt he0))).1⟩, ?_⟩)
          simp only [Act.put]
          repeat (first | (refine Tree.take ?_ (by rfl) ?_ ?_; rotate_left; (· rintro w9 ⟨u0, u1⟩; go_simp; (try rw [if_neg (by omega)]); all_goals (with_reducible rfl)); simp only [Act.put, List.setIfInBounds_toArray, List.set_cons_zero, List.set_cons_succ]))
          refine Tree.ends ?_
          go_wp2_with fail
          go_meet
          exact ⟨G, rfl, rfl, q3, g4, c4⟩
        · have g2 := heap_alloc_new w1 (partRow none 0 0 0)
          have c2 := c1.alloc c1.size (partRow none 0 0 0)
          have q2 : w0.heap.size ≤ (w1).heap.size := c1.size
          generalize hG2 : (w1).heap.size = G at *
          refine Tree.wp_make (.pointer (some ⟨G, 0, none⟩)) ((w1).alloc (partRow none 0 0 0)) ?_ ⟨⟨map_row (e_on (c2) hx0 (e_lt hx0)), (entry_row (e_on (c2) he0 (e_lt he0))).1⟩, ?_⟩
          · rw [← hG2]; go_simp
          clear hG2
          generalize (w1).alloc (partRow none 0 0 0) = v2 at *
          simp only [Act.put, List.setIfInBounds_toArray, List.set_cons_zero, List.set_cons_succ]
          repeat (first | (refine Tree.take ?_ (by rfl) ?_ ?_; rotate_left; (· rintro w9 ⟨u0, u1⟩; go_simp; (try rw [if_neg (by omega)]); all_goals (with_reducible rfl)); simp only [Act.put, List.setIfInBounds_toArray, List.set_cons_zero, List.set_cons_succ]))
          refine Tree.only (by rfl) ?_
          refine Tree.wp_call 38 _ ?_ (HP.out _ (hb0.trans (c2.mono hb0.size))) ?_
          · go_simp
          rintro e9 w3 ⟨rfl, h3⟩
          have c3 := c2.trans (h3.mono c2.size)
          have g3 := e_on h3 g2 (e_lt g2)
          refine ⟨_, rfl, (⟨map_row (e_on (c3) hx0 (e_lt hx0)), (entry_row (e_on (c3) he0 (e_lt he0))).1⟩), ?_⟩
          simp only [Act.put, List.setIfInBounds_toArray, List.set_cons_zero, List.set_cons_succ]
          repeat (first | (refine Tree.take ?_ (by rfl) ?_ ?_; rotate_left; (· rintro w9 ⟨u0, u1⟩; go_simp; (try rw [if_neg (by omega)]); all_goals (with_reducible rfl)); simp only [Act.put, List.setIfInBounds_toArray, List.set_cons_zero, List.set_cons_succ]))
          have c4 := below_setRow c3 q2 #[.slice a n c, .int .i64 ST]
          have g4 := setRow_heap w3 G _ #[.slice a n c, .int .i64 ST] _ _ g3
          refine Tree.only (by rfl) (wp_store_row 70 _ _ rfl G #[.slice a n c, .int .i64 ST] (by rfl) (by rfl) 70 _ g3 part_info rfl (by simp [Value.oneCell']) ⟨⟨map_row (e_on (c4) hx0 (e_lt hx0)), (entry_row (e_on (c4) he0 (e_lt he0))).1⟩, ?_⟩)
          simp only [Act.put]
          repeat (first | (refine Tree.take ?_ (by rfl) ?_ ?_; rotate_left; (· rintro w9 ⟨u0, u1⟩; go_simp; (try rw [if_neg (by omega)]); all_goals (with_reducible rfl)); simp only [Act.put, List.setIfInBounds_toArray, List.set_cons_zero, List.set_cons_succ]))
          refine Tree.ends ?_
          go_wp2_with fail
          go_meet
          exact ⟨G, rfl, rfl, q2, g4, c4⟩
      · have g1 : (w0.drew.alloc (partRow none 0 0 0)).heap[w0.heap.size]? = some (partRow none 0 0 0) := heap_alloc_new w0.drew (partRow none 0 0 0)
        have c1 := c9.alloc c9.size (partRow none 0 0 0)
        have q1 : w0.heap.size ≤ w0.heap.size := Nat.le_refl _
        refine Tree.wp_make (.pointer (some ⟨w0.heap.size, 0, none⟩)) (w0.drew.alloc (partRow none 0 0 0)) ?_ ⟨⟨map_row (e_on (c1) hx0 (e_lt hx0)), (entry_row (e_on (c1) he0 (e_lt he0))).1⟩, ?_⟩
        · go_simp
        generalize w0.drew.alloc (partRow none 0 0 0) = v1 at *
        simp only [Act.put, List.setIfInBounds_toArray, List.set_cons_zero, List.set_cons_succ]
        repeat (first | (refine Tree.take ?_ (by rfl) ?_ ?_; rotate_left; (· rintro w9 ⟨u0, u1⟩; go_simp; (try rw [if_neg (by omega)]); all_goals (with_reducible rfl)); simp only [Act.put, List.setIfInBounds_toArray, List.set_cons_zero, List.set_cons_succ]))
        refine Tree.only (by rfl) ?_
        refine Tree.wp_call 29 _ ?_ (HS.out _ (hb0.trans (c1.mono hb0.size))) ?_
        · go_simp
        rintro e9 w2 ⟨rfl, h2⟩
        have c2 := c1.trans (h2.mono c1.size)
        have g2 := e_on h2 g1 (e_lt g1)
        refine ⟨_, rfl, (⟨map_row (e_on (c2) hx0 (e_lt hx0)), (entry_row (e_on (c2) he0 (e_lt he0))).1⟩), ?_⟩
        simp only [Act.put, List.setIfInBounds_toArray, List.set_cons_zero, List.set_cons_succ]
        repeat (first | (refine Tree.take ?_ (by rfl) ?_ ?_; rotate_left; (· rintro w9 ⟨u0, u1⟩; go_simp; (try rw [if_neg (by omega)]); all_goals (with_reducible rfl)); simp only [Act.put, List.setIfInBounds_toArray, List.set_cons_zero, List.set_cons_succ]))
        refine Tree.only (by rfl) ?_
        refine Tree.wp_call 38 _ ?_ (HP.out _ (hb0.trans (c2.mono hb0.size))) ?_
        · go_simp
        rintro e9 w3 ⟨rfl, h3⟩
        have c3 := c2.trans (h3.mono c2.size)
        have g3 := e_on h3 g2 (e_lt g2)
        refine ⟨_, rfl, (⟨map_row (e_on (c3) hx0 (e_lt hx0)), (entry_row (e_on (c3) he0 (e_lt he0))).1⟩), ?_⟩
        simp only [Act.put, List.setIfInBounds_toArray, List.set_cons_zero, List.set_cons_succ]
        repeat (first | (refine Tree.take ?_ (by rfl) ?_ ?_; rotate_left; (· rintro w9 ⟨u0, u1⟩; go_simp; (try rw [if_neg (by omega)]); all_goals (with_reducible rfl)); simp only [Act.put, List.setIfInBounds_toArray, List.set_cons_zero, List.set_cons_succ]))
        have c4 := below_setRow c3 q1 #[.slice a n c, .int .i64 ST]
        have g4 := setRow_heap w3 w0.heap.size _ #[.slice a n c, .int .i64 ST] _ _ g3
        refine Tree.only (by rfl) (wp_store_row 70 _ _ rfl w0.heap.size #[.slice a n c, .int .i64 ST] (by rfl) (by rfl) 70 _ g3 part_info rfl (by simp [Value.oneCell']) ⟨⟨map_row (e_on (c4) hx0 (e_lt hx0)), (entry_row (e_on (c4) he0 (e_lt he0))).1⟩, ?_⟩)
        simp only [Act.put]
        repeat (first | (refine Tree.take ?_ (by rfl) ?_ ?_; rotate_left; (· rintro w9 ⟨u0, u1⟩; go_simp; (try rw [if_neg (by omega)]); all_goals (with_reducible rfl)); simp only [Act.put, List.setIfInBounds_toArray, List.set_cons_zero, List.set_cons_succ]))
        refine Tree.ends ?_
        go_wp2_with fail
        go_meet
        exact ⟨w0.heap.size, rfl, rfl, q1, g4, c4⟩
    case rest =>
      obtain ⟨g, rfl, rfl, hg, hgr, hc1⟩ := hcut
      have hr1 := e_on hc1 hr0 (e_lt hr0)
      have hq1 := e_on hc1 hq0 (e_lt hq0)
      have hx1 := e_on hc1 hx0 (e_lt hx0)
      have b1 := hb0.trans (hc1.mono hb0.size)
      go_wp2_with (first
        | ((with_reducible refine Plan.load_lit 24 (.tmp 2) w.heap.size ?_ hx1 Try.underlying24 ?_ ?_ ?_); (· rfl); (· rfl); (· exact map_info); simp only [Act.put, List.setIfInBounds_toArray, List.set_cons_zero, List.set_cons_succ])
        | ((with_reducible refine Plan.store_lit 24 (.tmp 4) _ (w.heap.size + 2) ?_ hq1 ?_ ?_ ?_ ?_ ?_ ?_); rotate_left; (· rfl); (· rfl); (· exact map_info); (· rfl); (· simp [Value.oneCell']); simp only [Act.put])
        | ((with_reducible refine Plan.store_lit 28 (.tmp 5) _ (w.heap.size + 3) ?_ ((setRow_other wc (w.heap.size + 2) (w.heap.size + 3) #[.slice a n c] (by omega)).trans hr1) ?_ ?_ ?_ ?_ ?_ ?_); rotate_left; (· rfl); (· rfl); (· exact entry_info); (· rfl); (· simp [Value.oneCell']); simp only [Act.put]))
      have hqf := (setRow_other (wc.setRow (w.heap.size + 2) #[.slice a n c]) (w.heap.size + 3) (w.heap.size + 2) #[.int .i64 0, .int .i64 0, .int .i64 0, .int .i64 0, .int .i64 0, .int .i64 0] (by omega)).trans (setRow_heap wc (w.heap.size + 2) _ #[.slice a n c] _ _ hq1)
      have hrf := setRow_heap (wc.setRow (w.heap.size + 2) #[.slice a n c]) (w.heap.size + 3) _ #[.int .i64 0, .int .i64 0, .int .i64 0, .int .i64 0, .int .i64 0, .int .i64 0] _ _ ((setRow_other wc (w.heap.size + 2) (w.heap.size + 3) #[.slice a n c] (by omega)).trans hr1)
      have bf := below_setRow (below_setRow b1 (show w.heap.size ≤ w.heap.size + 2 by omega) #[.slice a n c]) (show w.heap.size ≤ w.heap.size + 3 by omega) #[.int .i64 0, .int .i64 0, .int .i64 0, .int .i64 0, .int .i64 0, .int .i64 0]
      exact bodyPost_ret (results_cct (p := 4) (q := 5) (r := 6) rfl _ _ _ _ _ _ _ _ _ _ _ _ rfl rfl hqf Try.underlying24 rfl map_info hrf Try.underlying28 rfl entry_info) rfl ⟨_, _, _, rfl, HEND.out _ b1 _ _, bf⟩
  · obtain ⟨hva, h0⟩ := part_yes hg
    obtain ⟨r1, r2, r3⟩ := instM_at (e := ⟨eb, ek, ev, em, ez, eo⟩) hva h0
    rw [r1, r2, r3]
    try simp only
    clear r1 r2 r3
    have hst := st_lt hva eb
    rw [hlen] at hst
    have hat := shard_at hva eb
    obtain ⟨x, L, b', m', kk, rfl, hL, hcc, hle⟩ := hl.at' (st Ls eb) hst
    rw [hat] at hL
    obtain rfl := Option.some.inj hL
    have hn8 := (validM_iff.1 hva).1.2
    have hme := flat_each (hm hn8) _ (List.mem_of_getElem? hat)
    rw [hle.length] at hme
    have HPIN := Lib.hid (pinF hcc hle)
    have hxlt : x.block < w.heap.size := by
      have := World.block_lt_of_cell? w _ hcc
      rwa [ent_add_block] at this
    have HLI := Lib.hid (fun W (h : Below w.heap.size w W) => plist_any x n c (st Ls eb) b' m' kk W hst (Nat.lt_of_lt_of_le hxlt h.size) (HPIN.out W h).1)
    have HIN := Lib.hid (fun W (h : Below w.heap.size w W) => shardOk.install (fun b => F b ∧ b < w.heap.size) (shardOf Ls eb) ⟨eb, ek, ev, em, ez, eo⟩ b' m' kk W (fun b h9 => Nat.lt_of_lt_of_le h9.2 h.size) (HPIN.out W h).2 (by omega))
    have HML := Lib.hid (fun W W' (h : Below w.heap.size w W) (h2 : Below W.heap.size W W') => (show MList W' (Plus (fun b => F b ∧ b < w.heap.size) W.heap.size) (some x) n c Ls from
      ((hl.cut.on (Same.below h)).on (Same.below h2)).mono fun _ _ h => .inl h))
    rw [stripe_eq hva h0] at HS HP
    unfold InstPost at HIN
    generalize installL (shardOf Ls eb) ⟨eb, ek, ev, em, ez, eo⟩ = RL at *
    generalize installE (shardOf Ls eb) ⟨eb, ek, ev, em, ez, eo⟩ = YE at *
    generalize newer (shardOf Ls eb) ⟨eb, ek, ev, em, ez, eo⟩ = MV at *
    obtain ⟨yb, yk, yv, ym, yz, yo⟩ := YE
    try simp only at HIN
    have hn1000 : n ≤ 1000 := by omega
    clear hva h0 hat hcc hle hme hl hm hn8
    generalize hSt : st Ls eb = k at *
    clear hSt
    have HT := Lib.hid (fun (h : MV = true) => (if_pos h : (if MV = true then Ls.set k RL else Ls) = Ls.set k RL))
    have HF := Lib.hid (fun (h : MV = false) => (if_neg (by rw [h]; decide) : (if MV = true then Ls.set k RL else Ls) = Ls))
    generalize (if MV = true then Ls.set k RL else Ls) = RS at *
    generalize hST : (k : Int) = ST at HS HP
    rw [hg] at HP
    have c0 := Below.refl ((((w.alloc (mapRow (some x) n c)).alloc (entRow eb ek ev em ez eo)).alloc (mapRow none 0 0)).alloc (entRow 0 0 0 0 0 0)).heap.size ((((w.alloc (mapRow (some x) n c)).alloc (entRow eb ek ev em ez eo)).alloc (mapRow none 0 0)).alloc (entRow 0 0 0 0 0 0))
    clear hg
    go_enter Try.func24, Try.ntmps24
    generalize hw0 : (((w.alloc (mapRow (some x) n c)).alloc (entRow eb ek ev em ez eo)).alloc (mapRow none 0 0)).alloc (entRow 0 0 0 0 0 0) = w0 at *
    go_upto_region 1 with fail
    go_cut [7, 8] (fun s6 s7 wx => ∃ g : Nat, s6 = .pointer (some ⟨g, 0, none⟩) ∧ s7 = .bool true ∧ w0.heap.size ≤ g ∧ wx.heap[g]? = some (partRow (some x) n c ST) ∧ Below w0.heap.size w0 wx)
    case first =>
      refine Tree.start (fun W => W.cell? ⟨w.heap.size, 0, none⟩ = some (.slice (some x) n c) ∧ W.cell? ⟨w.heap.size + 1, 0, none⟩ = some (.int .i64 eb)) (.take 0 (.take 1 (.take 2 (.take 3 (.fork 4 (.fork 5 (.take 6 (.take 7 (.take 8 (.only 9 (.only 10 (.take 11 (.done))))))) 9 (.only 5 (.take 6 (.take 7 (.take 8 (.only 10 (.take 11 (.done)))))))) 9 (.only 4 (.only 5 (.take 6 (.take 7 (.take 8 (.only 10 (.take 11 (.done))))))))))))) (by kernel_rfl) (by kernel_rfl) (by kernel_rfl) (by kernel_rfl) (⟨map_row (e_on (c0.drew) hx0 (e_lt hx0)), (entry_row (e_on (c0.drew) he0 (e_lt he0))).1⟩) ?_
      simp only [Tree.T.map, List.getElem?_toArray, List.getElem?_cons_zero, List.getElem?_cons_succ]
      repeat (first | (refine Tree.take ?_ (by rfl) ?_ ?_; rotate_left; (· rintro w9 ⟨u0, u1⟩; go_simp; (try rw [if_neg (by omega)]); all_goals (with_reducible rfl)); simp only [Act.put, List.setIfInBounds_toArray, List.set_cons_zero, List.set_cons_succ]))
      have c9 := c0.drew
      refine Tree.fork (by rfl) (by rfl) ?_ ?_
      · refine Tree.wp_call 29 _ ?_ (HS.out _ (hb0.trans (c9.mono hb0.size))) ?_
        · go_simp
        rintro e9 w1 ⟨rfl, h1⟩
        have c1 := c9.trans (h1.mono c9.size)
        refine ⟨_, rfl, (⟨map_row (e_on (c1) hx0 (e_lt hx0)), (entry_row (e_on (c1) he0 (e_lt he0))).1⟩), ?_⟩
        simp only [Act.put, List.setIfInBounds_toArray, List.set_cons_zero, List.set_cons_succ]
        repeat (first | (refine Tree.take ?_ (by rfl) ?_ ?_; rotate_left; (· rintro w9 ⟨u0, u1⟩; go_simp; (try rw [if_neg (by omega)]); all_goals (with_reducible rfl)); simp only [Act.put, List.setIfInBounds_toArray, List.set_cons_zero, List.set_cons_succ]))
        refine Tree.fork (by rfl) (by rfl) ?_ ?_
        · refine Tree.wp_call 38 _ ?_ (HP.out _ (hb0.trans (c1.mono hb0.size))) ?_
          · go_simp
          rintro e9 w2 ⟨rfl, h2⟩
          have c2 := c1.trans (h2.mono c1.size)
          refine ⟨_, rfl, (⟨map_row (e_on (c2) hx0 (e_lt hx0)), (entry_row (e_on (c2) he0 (e_lt he0))).1⟩), ?_⟩
          simp only [Act.put, List.setIfInBounds_toArray, List.set_cons_zero, List.set_cons_succ]
          repeat (first | (refine Tree.take ?_ (by rfl) ?_ ?_; rotate_left; (· rintro w9 ⟨u0, u1⟩; go_simp; (try rw [if_neg (by omega)]); all_goals (with_reducible rfl)); simp only [Act.put, List.setIfInBounds_toArray, List.set_cons_zero, List.set_cons_succ]))
          refine Tree.only (by rfl) ?_
          have g3 := heap_alloc_new w2 (partRow none 0 0 0)
          have c3 := c2.alloc c2.size (partRow none 0 0 0)
          have q3 : w0.heap.size ≤ (w2).heap.size := c2.size
          generalize hG3 : (w2).heap.size = G at *
          refine Tree.wp_make (.pointer (some ⟨G, 0, none⟩)) ((w2).alloc (partRow none 0 0 0)) ?_ ⟨⟨map_row (e_on (c3) hx0 (e_lt hx0)), (entry_row (e_on (c3) he0 (e_lt he0))).1⟩, ?_⟩
          · rw [← hG3]; go_simp
          clear hG3
          generalize (w2).alloc (partRow none 0 0 0) = v3 at *
          simp only [Act.put, List.setIfInBounds_toArray, List.set_cons_zero, List.set_cons_succ]
          repeat (first | (refine Tree.take ?_ (by rfl) ?_ ?_; rotate_left; (· rintro w9 ⟨u0, u1⟩; go_simp; (try rw [if_neg (by omega)]); all_goals (with_reducible rfl)); simp only [Act.put, List.setIfInBounds_toArray, List.set_cons_zero, List.set_cons_succ]))
          have c4 := below_setRow c3 q3 #[.slice (some x) n c, .int .i64 ST]
          have g4 := setRow_heap v3 G _ #[.slice (some x) n c, .int .i64 ST] _ _ g3
          refine Tree.only (by rfl) (wp_store_row 70 _ _ rfl G #[.slice (some x) n c, .int .i64 ST] (by rfl) (by rfl) 70 _ g3 part_info rfl (by simp [Value.oneCell']) ⟨⟨map_row (e_on (c4) hx0 (e_lt hx0)), (entry_row (e_on (c4) he0 (e_lt he0))).1⟩, ?_⟩)
          simp only [Act.put]
          repeat (first | (refine Tree.take ?_ (by rfl) ?_ ?_; rotate_left; (· rintro w9 ⟨u0, u1⟩; go_simp; (try rw [if_neg (by omega)]); all_goals (with_reducible rfl)); simp only [Act.put, List.setIfInBounds_toArray, List.set_cons_zero, List.set_cons_succ]))
          refine Tree.ends ?_
          go_wp2_with fail
          go_meet
          exact ⟨G, rfl, rfl, q3, g4, c4⟩
        · have g2 := heap_alloc_new w1 (partRow none 0 0 0)
          have c2 := c1.alloc c1.size (partRow none 0 0 0)
          have q2 : w0.heap.size ≤ (w1).heap.size := c1.size
          generalize hG2 : (w1).heap.size = G at *
          refine Tree.wp_make (.pointer (some ⟨G, 0, none⟩)) ((w1).alloc (partRow none 0 0 0)) ?_ ⟨⟨map_row (e_on (c2) hx0 (e_lt hx0)), (entry_row (e_on (c2) he0 (e_lt he0))).1⟩, ?_⟩
          · rw [← hG2]; go_simp
          clear hG2
          generalize (w1).alloc (partRow none 0 0 0) = v2 at *
          simp only [Act.put, List.setIfInBounds_toArray, List.set_cons_zero, List.set_cons_succ]
          repeat (first | (refine Tree.take ?_ (by rfl) ?_ ?_; rotate_left; (· rintro w9 ⟨u0, u1⟩; go_simp; (try rw [if_neg (by omega)]); all_goals (with_reducible rfl)); simp only [Act.put, List.setIfInBounds_toArray, List.set_cons_zero, List.set_cons_succ]))
          refine Tree.only (by rfl) ?_
          refine Tree.wp_call 38 _ ?_ (HP.out _ (hb0.trans (c2.mono hb0.size))) ?_
          · go_simp
          rintro e9 w3 ⟨rfl, h3⟩
          have c3 := c2.trans (h3.mono c2.size)
          have g3 := e_on h3 g2 (e_lt g2)
          refine ⟨_, rfl, (⟨map_row (e_on (c3) hx0 (e_lt hx0)), (entry_row (e_on (c3) he0 (e_lt he0))).1⟩), ?_⟩
          simp only [Act.put, List.setIfInBounds_toArray, List.set_cons_zero, List.set_cons_succ]
          repeat (first | (refine Tree.take ?_ (by rfl) ?_ ?_; rotate_left; (· rintro w9 ⟨u0, u1⟩; go_simp; (try rw [if_neg (by omega)]); all_goals (with_reducible rfl)); simp only [Act.put, List.setIfInBounds_toArray, List.set_cons_zero, List.set_cons_succ]))
          have c4 := below_setRow c3 q2 #[.slice (some x) n c, .int .i64 ST]
          have g4 := setRow_heap w3 G _ #[.slice (some x) n c, .int .i64 ST] _ _ g3
          refine Tree.only (by rfl) (wp_store_row 70 _ _ rfl G #[.slice (some x) n c, .int .i64 ST] (by rfl) (by rfl) 70 _ g3 part_info rfl (by simp [Value.oneCell']) ⟨⟨map_row (e_on (c4) hx0 (e_lt hx0)), (entry_row (e_on (c4) he0 (e_lt he0))).1⟩, ?_⟩)
          simp only [Act.put]
          repeat (first | (refine Tree.take ?_ (by rfl) ?_ ?_; rotate_left; (· rintro w9 ⟨u0, u1⟩; go_simp; (try rw [if_neg (by omega)]); all_goals (with_reducible rfl)); simp only [Act.put, List.setIfInBounds_toArray, List.set_cons_zero, List.set_cons_succ]))
          refine Tree.ends ?_
          go_wp2_with fail
          go_meet
          exact ⟨G, rfl, rfl, q2, g4, c4⟩
      · have g1 : (w0.drew.alloc (partRow none 0 0 0)).heap[w0.heap.size]? = some (partRow none 0 0 0) := heap_alloc_new w0.drew (partRow none 0 0 0)
        have c1 := c9.alloc c9.size (partRow none 0 0 0)
        have q1 : w0.heap.size ≤ w0.heap.size := Nat.le_refl _
        refine Tree.wp_make (.pointer (some ⟨w0.heap.size, 0, none⟩)) (w0.drew.alloc (partRow none 0 0 0)) ?_ ⟨⟨map_row (e_on (c1) hx0 (e_lt hx0)), (entry_row (e_on (c1) he0 (e_lt he0))).1⟩, ?_⟩
        · go_simp
        generalize w0.drew.alloc (partRow none 0 0 0) = v1 at *
        simp only [Act.put, List.setIfInBounds_toArray, List.set_cons_zero, List.set_cons_succ]
        repeat (first | (refine Tree.take ?_ (by rfl) ?_ ?_; rotate_left; (· rintro w9 ⟨u0, u1⟩; go_simp; (try rw [if_neg (by omega)]); all_goals (with_reducible rfl)); simp only [Act.put, List.setIfInBounds_toArray, List.set_cons_zero, List.set_cons_succ]))
        refine Tree.only (by rfl) ?_
        refine Tree.wp_call 29 _ ?_ (HS.out _ (hb0.trans (c1.mono hb0.size))) ?_
        · go_simp
        rintro e9 w2 ⟨rfl, h2⟩
        have c2 := c1.trans (h2.mono c1.size)
        have g2 := e_on h2 g1 (e_lt g1)
        refine ⟨_, rfl, (⟨map_row (e_on (c2) hx0 (e_lt hx0)), (entry_row (e_on (c2) he0 (e_lt he0))).1⟩), ?_⟩
        simp only [Act.put, List.setIfInBounds_toArray, List.set_cons_zero, List.set_cons_succ]
        repeat (first | (refine Tree.take ?_ (by rfl) ?_ ?_; rotate_left; (· rintro w9 ⟨u0, u1⟩; go_simp; (try rw [if_neg (by omega)]); all_goals (with_reducible rfl)); simp only [Act.put, List.setIfInBounds_toArray, List.set_cons_zero, List.set_cons_succ]))
        refine Tree.only (by rfl) ?_
        refine Tree.wp_call 38 _ ?_ (HP.out _ (hb0.trans (c2.mono hb0.size))) ?_
        · go_simp
        rintro e9 w3 ⟨rfl, h3⟩
        have c3 := c2.trans (h3.mono c2.size)
        have g3 := e_on h3 g2 (e_lt g2)
        refine ⟨_, rfl, (⟨map_row (e_on (c3) hx0 (e_lt hx0)), (entry_row (e_on (c3) he0 (e_lt he0))).1⟩), ?_⟩
        simp only [Act.put, List.setIfInBounds_toArray, List.set_cons_zero, List.set_cons_succ]
        repeat (first | (refine Tree.take ?_ (by rfl) ?_ ?_; rotate_left; (· rintro w9 ⟨u0, u1⟩; go_simp; (try rw [if_neg (by omega)]); all_goals (with_reducible rfl)); simp only [Act.put, List.setIfInBounds_toArray, List.set_cons_zero, List.set_cons_succ]))
        have c4 := below_setRow c3 q1 #[.slice (some x) n c, .int .i64 ST]
        have g4 := setRow_heap w3 w0.heap.size _ #[.slice (some x) n c, .int .i64 ST] _ _ g3
        refine Tree.only (by rfl) (wp_store_row 70 _ _ rfl w0.heap.size #[.slice (some x) n c, .int .i64 ST] (by rfl) (by rfl) 70 _ g3 part_info rfl (by simp [Value.oneCell']) ⟨⟨map_row (e_on (c4) hx0 (e_lt hx0)), (entry_row (e_on (c4) he0 (e_lt he0))).1⟩, ?_⟩)
        simp only [Act.put]
        repeat (first | (refine Tree.take ?_ (by rfl) ?_ ?_; rotate_left; (· rintro w9 ⟨u0, u1⟩; go_simp; (try rw [if_neg (by omega)]); all_goals (with_reducible rfl)); simp only [Act.put, List.setIfInBounds_toArray, List.set_cons_zero, List.set_cons_succ]))
        refine Tree.ends ?_
        go_wp2_with fail
        go_meet
        exact ⟨w0.heap.size, rfl, rfl, q1, g4, c4⟩
    case rest =>
      obtain ⟨g, rfl, rfl, hg, hg1, hc1⟩ := hcut
      have hr1 := e_on hc1 hr0 (e_lt hr0)
      have hq1 := e_on hc1 hq0 (e_lt hq0)
      have he1 := e_on hc1 he0 (e_lt he0)
      have hx1 := e_on hc1 hx0 (e_lt hx0)
      have b1 := hb0.trans (hc1.mono hb0.size)
      have hs0 := e_lt hr0
      have hs1 := e_lt hr1
      rw [← hST] at hg1
      clear hST hr0 hq0 he0 hx0
      generalize wc = W1 at *
      have c0 := Below.refl W1.heap.size W1
      go_upto_region 4 with fail
      go_cut [8, 9, 10] (fun s8 s9 s10 wx => ∃ (g2 : Nat) (a3 : Option Addr) (n3 k3 : Nat), s8 = .bool MV ∧ s9 = .slice a3 n3 k3 ∧ s10 = .pointer (some ⟨g2, 0, none⟩) ∧ W1.heap.size ≤ g2 ∧ wx.heap[g2]? = some (entRow yb yk yv ym yz yo) ∧ EList wx (Plus (fun b => F b ∧ b < w.heap.size) W1.heap.size) a3 n3 k3 RL ∧ Below W1.heap.size W1 wx)
      case first =>
        refine Tree.start (fun W => (W.cell? ⟨g, 0, none⟩ = some (.slice (some x) n c) ∧ W.cell? ⟨g, 1, none⟩ = some (.int .i64 k)) ∧ Six W (w.heap.size + 1) eb ek ev em ez eo) (.take 0 (.take 2 (.fork 1 (.fork 3 (.take 4 (.take 5 (.take 6 (.take 7 (.only 8 (.take 9 (.only 10 (.take 11 (.done))))))))) 8 (.only 3 (.take 4 (.take 5 (.take 6 (.take 7 (.take 9 (.only 10 (.take 11 (.done)))))))))) 8 (.only 1 (.only 3 (.take 4 (.take 5 (.take 6 (.take 7 (.take 9 (.only 10 (.take 11 (.done))))))))))))) (by kernel_rfl) (by kernel_rfl) (by kernel_rfl) (by kernel_rfl) ⟨part_row (e_on (c0.drew) hg1 (e_lt hg1)), entry_row (e_on (c0.drew) he1 (e_lt he1))⟩ ?_
        simp only [Tree.T.map, List.getElem?_toArray, List.getElem?_cons_zero, List.getElem?_cons_succ]
        repeat (first | (refine Tree.take ?_ (by rfl) ?_ ?_; rotate_left; (· rintro w9 ⟨⟨u0, u1⟩, u2, u3, u4, u5, u6, u7⟩; go_simp; (try rw [if_neg (by omega)]); all_goals (with_reducible rfl)); simp only [Act.put, List.setIfInBounds_toArray, List.set_cons_zero, List.set_cons_succ]))
        have c9 := c0.drew
        refine Tree.fork (by rfl) (by rfl) ?_ ?_
        · refine Tree.wp_call 40 _ ?_ (HLI.out _ (b1.trans (c9.mono b1.size))) ?_
          · go_simp
          rintro e9 w1 ⟨rfl, h1⟩
          have c1 := c9.trans (h1.mono c9.size)
          refine ⟨_, rfl, ⟨part_row (e_on (c1) hg1 (e_lt hg1)), entry_row (e_on (c1) he1 (e_lt he1))⟩, ?_⟩
          simp only [Act.put, List.setIfInBounds_toArray, List.set_cons_zero, List.set_cons_succ]
          repeat (first | (refine Tree.take ?_ (by rfl) ?_ ?_; rotate_left; (· rintro w9 ⟨⟨u0, u1⟩, u2, u3, u4, u5, u6, u7⟩; go_simp; (try rw [if_neg (by omega)]); all_goals (with_reducible rfl)); simp only [Act.put, List.setIfInBounds_toArray, List.set_cons_zero, List.set_cons_succ]))
          have z1 : W1.heap.size ≤ w1.heap.size := c1.size
          refine Tree.fork (by rfl) (by rfl) ?_ ?_
          · refine Tree.wp_call 44 _ ?_ (HIN.out _ (b1.trans (c1.mono b1.size))) ?_
            · go_simp
            rintro e9 w2 ⟨a3, n3, k3, rfl, l2, h2⟩
            have c2 := c1.trans (h2.mono c1.size)
            refine ⟨_, rfl, ⟨part_row (e_on (c2) hg1 (e_lt hg1)), entry_row (e_on (c2) he1 (e_lt he1))⟩, ?_⟩
            simp only [Act.put, List.setIfInBounds_toArray, List.set_cons_zero, List.set_cons_succ]
            repeat (first | (refine Tree.take ?_ (by rfl) ?_ ?_; rotate_left; (· rintro w9 ⟨⟨u0, u1⟩, u2, u3, u4, u5, u6, u7⟩; go_simp; (try rw [if_neg (by omega)]); all_goals (with_reducible rfl)); simp only [Act.put, List.setIfInBounds_toArray, List.set_cons_zero, List.set_cons_succ]))
            have z2 : W1.heap.size ≤ w2.heap.size := c2.size
            refine Tree.only (by rfl) ?_
            have g3 : ((w2).alloc (entRow 0 0 0 0 0 0)).heap[w2.heap.size]? = some (entRow 0 0 0 0 0 0) := heap_alloc_new (w2) (entRow 0 0 0 0 0 0)
            have c3 := c2.alloc c2.size (entRow 0 0 0 0 0 0)
            refine Tree.wp_make (.pointer (some ⟨w2.heap.size, 0, none⟩)) ((w2).alloc (entRow 0 0 0 0 0 0)) ?_ ⟨⟨part_row (e_on (c3) hg1 (e_lt hg1)), entry_row (e_on (c3) he1 (e_lt he1))⟩, ?_⟩
            · go_simp
            simp only [Act.put, List.setIfInBounds_toArray, List.set_cons_zero, List.set_cons_succ]
            repeat (first | (refine Tree.take ?_ (by rfl) ?_ ?_; rotate_left; (· rintro w9 ⟨⟨u0, u1⟩, u2, u3, u4, u5, u6, u7⟩; go_simp; (try rw [if_neg (by omega)]); all_goals (with_reducible rfl)); simp only [Act.put, List.setIfInBounds_toArray, List.set_cons_zero, List.set_cons_succ]))
            have c8 := below_setRow c3 z2 #[.int .i64 yb, .int .i64 yk, .int .i64 yv, .int .i64 ym, .int .i64 yz, .int .i64 yo]
            have g8 := setRow_heap (w2.alloc (entRow 0 0 0 0 0 0)) w2.heap.size _ #[.int .i64 yb, .int .i64 yk, .int .i64 yv, .int .i64 ym, .int .i64 yz, .int .i64 yo] _ _ g3
            have l8 : EList ((w2.alloc (entRow 0 0 0 0 0 0)).setRow w2.heap.size #[.int .i64 yb, .int .i64 yk, .int .i64 yv, .int .i64 ym, .int .i64 yz, .int .i64 yo]) (Plus (fun b => F b ∧ b < w.heap.size) W1.heap.size) a3 n3 k3 RL := (l2.cut.on ((Same.alloc w2 (entRow 0 0 0 0 0 0)).trans (Same.row (r := w2.heap.size) (fun h9 => by have := h9.2; omega) #[.int .i64 yb, .int .i64 yk, .int .i64 yv, .int .i64 ym, .int .i64 yz, .int .i64 yo]))).mono (fun b _ h9 => by rcases h9.1 with h7 | h7; (· exact .inl h7); (· exact .inr (by omega)))
            refine Tree.only (by rfl) (wp_store_row 28 _ _ rfl w2.heap.size #[.int .i64 yb, .int .i64 yk, .int .i64 yv, .int .i64 ym, .int .i64 yz, .int .i64 yo] (by rfl) (by rfl) 28 _ g3 entry_info rfl (by simp [Value.oneCell']) ⟨⟨part_row (e_on (c8) hg1 (e_lt hg1)), entry_row (e_on (c8) he1 (e_lt he1))⟩, ?_⟩)
            simp only [Act.put]
            repeat (first | (refine Tree.take ?_ (by rfl) ?_ ?_; rotate_left; (· rintro w9 ⟨⟨u0, u1⟩, u2, u3, u4, u5, u6, u7⟩; go_simp; (try rw [if_neg (by omega)]); all_goals (with_reducible rfl)); simp only [Act.put, List.setIfInBounds_toArray, List.set_cons_zero, List.set_cons_succ]))
            refine Tree.ends ?_
            go_wp2_with fail
            go_meet
            exact ⟨w2.heap.size, a3, n3, k3, rfl, rfl, rfl, z2, g8, l8, c8⟩
          · have g2 : ((w1).alloc (entRow 0 0 0 0 0 0)).heap[w1.heap.size]? = some (entRow 0 0 0 0 0 0) := heap_alloc_new (w1) (entRow 0 0 0 0 0 0)
            have c2 := c1.alloc c1.size (entRow 0 0 0 0 0 0)
            refine Tree.wp_make (.pointer (some ⟨w1.heap.size, 0, none⟩)) ((w1).alloc (entRow 0 0 0 0 0 0)) ?_ ⟨⟨part_row (e_on (c2) hg1 (e_lt hg1)), entry_row (e_on (c2) he1 (e_lt he1))⟩, ?_⟩
            · go_simp
            simp only [Act.put, List.setIfInBounds_toArray, List.set_cons_zero, List.set_cons_succ]
            repeat (first | (refine Tree.take ?_ (by rfl) ?_ ?_; rotate_left; (· rintro w9 ⟨⟨u0, u1⟩, u2, u3, u4, u5, u6, u7⟩; go_simp; (try rw [if_neg (by omega)]); all_goals (with_reducible rfl)); simp only [Act.put, List.setIfInBounds_toArray, List.set_cons_zero, List.set_cons_succ]))
            have s2 : (w1.alloc (entRow 0 0 0 0 0 0)).heap.size = w1.heap.size + 1 := by simp only [World.size_alloc]
            refine Tree.only (by rfl) ?_
            refine Tree.wp_call 44 _ ?_ (HIN.out _ (b1.trans (c2.mono b1.size))) ?_
            · go_simp
            rintro e9 w3 ⟨a3, n3, k3, rfl, l3, h3⟩
            have c3 := c2.trans (h3.mono c2.size)
            have g3 := e_on h3 g2 (e_lt g2)
            refine ⟨_, rfl, ⟨part_row (e_on (c3) hg1 (e_lt hg1)), entry_row (e_on (c3) he1 (e_lt he1))⟩, ?_⟩
            simp only [Act.put, List.setIfInBounds_toArray, List.set_cons_zero, List.set_cons_succ]
            repeat (first | (refine Tree.take ?_ (by rfl) ?_ ?_; rotate_left; (· rintro w9 ⟨⟨u0, u1⟩, u2, u3, u4, u5, u6, u7⟩; go_simp; (try rw [if_neg (by omega)]); all_goals (with_reducible rfl)); simp only [Act.put, List.setIfInBounds_toArray, List.set_cons_zero, List.set_cons_succ]))
            have c8 := below_setRow c3 z1 #[.int .i64 yb, .int .i64 yk, .int .i64 yv, .int .i64 ym, .int .i64 yz, .int .i64 yo]
            have g8 := setRow_heap (w3) w1.heap.size _ #[.int .i64 yb, .int .i64 yk, .int .i64 yv, .int .i64 ym, .int .i64 yz, .int .i64 yo] _ _ g3
            have l8 : EList ((w3).setRow w1.heap.size #[.int .i64 yb, .int .i64 yk, .int .i64 yv, .int .i64 ym, .int .i64 yz, .int .i64 yo]) (Plus (fun b => F b ∧ b < w.heap.size) W1.heap.size) a3 n3 k3 RL := (l3.on (Same.row (r := w1.heap.size) (fun h9 => by rcases h9 with h9 | h9; (· have := h9.2; omega); (· omega)) #[.int .i64 yb, .int .i64 yk, .int .i64 yv, .int .i64 ym, .int .i64 yz, .int .i64 yo])).mono (fun b _ h9 => by rcases h9 with h7 | h7; (· exact .inl h7); (· exact .inr (by omega)))
            refine Tree.only (by rfl) (wp_store_row 28 _ _ rfl w1.heap.size #[.int .i64 yb, .int .i64 yk, .int .i64 yv, .int .i64 ym, .int .i64 yz, .int .i64 yo] (by rfl) (by rfl) 28 _ g3 entry_info rfl (by simp [Value.oneCell']) ⟨⟨part_row (e_on (c8) hg1 (e_lt hg1)), entry_row (e_on (c8) he1 (e_lt he1))⟩, ?_⟩)
            simp only [Act.put]
            repeat (first | (refine Tree.take ?_ (by rfl) ?_ ?_; rotate_left; (· rintro w9 ⟨⟨u0, u1⟩, u2, u3, u4, u5, u6, u7⟩; go_simp; (try rw [if_neg (by omega)]); all_goals (with_reducible rfl)); simp only [Act.put, List.setIfInBounds_toArray, List.set_cons_zero, List.set_cons_succ]))
            refine Tree.ends ?_
            go_wp2_with fail
            go_meet
            exact ⟨w1.heap.size, a3, n3, k3, rfl, rfl, rfl, z1, g8, l8, c8⟩
        · have g1 : ((W1.drew).alloc (entRow 0 0 0 0 0 0)).heap[W1.heap.size]? = some (entRow 0 0 0 0 0 0) := heap_alloc_new (W1.drew) (entRow 0 0 0 0 0 0)
          have c1 := c9.alloc c9.size (entRow 0 0 0 0 0 0)
          refine Tree.wp_make (.pointer (some ⟨W1.heap.size, 0, none⟩)) ((W1.drew).alloc (entRow 0 0 0 0 0 0)) ?_ ⟨⟨part_row (e_on (c1) hg1 (e_lt hg1)), entry_row (e_on (c1) he1 (e_lt he1))⟩, ?_⟩
          · go_simp
          simp only [Act.put, List.setIfInBounds_toArray, List.set_cons_zero, List.set_cons_succ]
          repeat (first | (refine Tree.take ?_ (by rfl) ?_ ?_; rotate_left; (· rintro w9 ⟨⟨u0, u1⟩, u2, u3, u4, u5, u6, u7⟩; go_simp; (try rw [if_neg (by omega)]); all_goals (with_reducible rfl)); simp only [Act.put, List.setIfInBounds_toArray, List.set_cons_zero, List.set_cons_succ]))
          have s1 : (W1.drew.alloc (entRow 0 0 0 0 0 0)).heap.size = W1.heap.size + 1 := by simp only [World.size_alloc]; rfl
          refine Tree.only (by rfl) ?_
          refine Tree.wp_call 40 _ ?_ (HLI.out _ (b1.trans (c1.mono b1.size))) ?_
          · go_simp
          rintro e9 w2 ⟨rfl, h2⟩
          have c2 := c1.trans (h2.mono c1.size)
          refine ⟨_, rfl, ⟨part_row (e_on (c2) hg1 (e_lt hg1)), entry_row (e_on (c2) he1 (e_lt he1))⟩, ?_⟩
          simp only [Act.put, List.setIfInBounds_toArray, List.set_cons_zero, List.set_cons_succ]
          repeat (first | (refine Tree.take ?_ (by rfl) ?_ ?_; rotate_left; (· rintro w9 ⟨⟨u0, u1⟩, u2, u3, u4, u5, u6, u7⟩; go_simp; (try rw [if_neg (by omega)]); all_goals (with_reducible rfl)); simp only [Act.put, List.setIfInBounds_toArray, List.set_cons_zero, List.set_cons_succ]))
          have g2 := e_on h2 g1 (e_lt g1)
          have s2 := h2.size
          refine Tree.only (by rfl) ?_
          refine Tree.wp_call 44 _ ?_ (HIN.out _ (b1.trans (c2.mono b1.size))) ?_
          · go_simp
          rintro e9 w3 ⟨a3, n3, k3, rfl, l3, h3⟩
          have c3 := c2.trans (h3.mono c2.size)
          have g3 := e_on h3 g2 (e_lt g2)
          refine ⟨_, rfl, ⟨part_row (e_on (c3) hg1 (e_lt hg1)), entry_row (e_on (c3) he1 (e_lt he1))⟩, ?_⟩
          simp only [Act.put, List.setIfInBounds_toArray, List.set_cons_zero, List.set_cons_succ]
          repeat (first | (refine Tree.take ?_ (by rfl) ?_ ?_; rotate_left; (· rintro w9 ⟨⟨u0, u1⟩, u2, u3, u4, u5, u6, u7⟩; go_simp; (try rw [if_neg (by omega)]); all_goals (with_reducible rfl)); simp only [Act.put, List.setIfInBounds_toArray, List.set_cons_zero, List.set_cons_succ]))
          have z1 : W1.heap.size ≤ W1.heap.size := Nat.le_refl _
          have c8 := below_setRow c3 z1 #[.int .i64 yb, .int .i64 yk, .int .i64 yv, .int .i64 ym, .int .i64 yz, .int .i64 yo]
          have g8 := setRow_heap (w3) W1.heap.size _ #[.int .i64 yb, .int .i64 yk, .int .i64 yv, .int .i64 ym, .int .i64 yz, .int .i64 yo] _ _ g3
          have l8 : EList ((w3).setRow W1.heap.size #[.int .i64 yb, .int .i64 yk, .int .i64 yv, .int .i64 ym, .int .i64 yz, .int .i64 yo]) (Plus (fun b => F b ∧ b < w.heap.size) W1.heap.size) a3 n3 k3 RL := (l3.on (Same.row (r := W1.heap.size) (fun h9 => by rcases h9 with h9 | h9; (· have := h9.2; omega); (· omega)) #[.int .i64 yb, .int .i64 yk, .int .i64 yv, .int .i64 ym, .int .i64 yz, .int .i64 yo])).mono (fun b _ h9 => by rcases h9 with h7 | h7; (· exact .inl h7); (· exact .inr (by omega)))
          refine Tree.only (by rfl) (wp_store_row 28 _ _ rfl W1.heap.size #[.int .i64 yb, .int .i64 yk, .int .i64 yv, .int .i64 ym, .int .i64 yz, .int .i64 yo] (by rfl) (by rfl) 28 _ g3 entry_info rfl (by simp [Value.oneCell']) ⟨⟨part_row (e_on (c8) hg1 (e_lt hg1)), entry_row (e_on (c8) he1 (e_lt he1))⟩, ?_⟩)
          simp only [Act.put]
          repeat (first | (refine Tree.take ?_ (by rfl) ?_ ?_; rotate_left; (· rintro w9 ⟨⟨u0, u1⟩, u2, u3, u4, u5, u6, u7⟩; go_simp; (try rw [if_neg (by omega)]); all_goals (with_reducible rfl)); simp only [Act.put, List.setIfInBounds_toArray, List.set_cons_zero, List.set_cons_succ]))
          refine Tree.ends ?_
          go_wp2_with fail
          go_meet
          exact ⟨W1.heap.size, a3, n3, k3, rfl, rfl, rfl, z1, g8, l8, c8⟩
      case rest =>
        obtain ⟨g2, a3, n3, k3, rfl, rfl, rfl, hg2, ho2, l2, hc2⟩ := hcut
        have hr2 := e_on hc2 hr1 (e_lt hr1)
        have hq2 := e_on hc2 hq1 (e_lt hq1)
        have hx2 := e_on hc2 hx1 (e_lt hx1)
        have hp2 := e_on hc2 hg1 (e_lt hg1)
        have b2 := b1.trans (hc2.mono b1.size)
        have hgl := e_lt hg1
        have hz0 := hc1.size
        clear hr1 hq1 hx1 hg1 he1
        generalize wc = W2 at *
        have HW := Lib.hid (pwith_any _ Ls (some x) n c k RL a3 n3 k3 W2.drew ((HML.out _ _ b1 hc2).on ⟨Nat.le_refl _, fun _ _ _ => rfl⟩) hst (l2.on ⟨Nat.le_refl _, fun _ _ _ => rfl⟩) hn1000)
        have hzw := hc2.size
        cases MV
        · have hRS := Lib.hid (HF.out rfl)
          clear HT HF HW l2
          go_wp2_with fail
          refine Plan.start (fun W => W.cell? ⟨w.heap.size, 0, none⟩ = some (.slice (some x) n c) ∧ Six W g2 yb yk yv ym yz yo) [(0, true), (1, true), (2, false), (3, false), (4, true)] (by kernel_rfl) (by kernel_rfl) (by kernel_rfl) (by kernel_rfl) ⟨map_row hx2, entry_row ho2⟩ ?_
          simp only [List.map_cons, List.map_nil, List.getElem?_toArray, List.getElem?_cons_zero, List.getElem?_cons_succ]
          repeat (first | (refine Plan.take ?_ (by rfl) ?_ ?_; rotate_left; (· rintro w9 ⟨u0, u1, u2, u3, u4, u5, u6⟩; go_simp; (try rw [if_neg (by omega)]); all_goals (with_reducible rfl)); simp only [Act.put, List.setIfInBounds_toArray, List.set_cons_zero, List.set_cons_succ]) | (refine Plan.pass (by rfl) ?_; simp only [Act.put, List.setIfInBounds_toArray, List.set_cons_zero, List.set_cons_succ]))
          have hx6 := (setRow_other W2.drew (w.heap.size + 2) w.heap.size #[.slice (some x) n c] (by omega)).trans (show W2.drew.heap[w.heap.size]? = _ from hx2)
          have ho6 := (setRow_other W2.drew (w.heap.size + 2) g2 #[.slice (some x) n c] (by omega)).trans (show W2.drew.heap[g2]? = _ from ho2)
          have hr6 := (setRow_other W2.drew (w.heap.size + 2) (w.heap.size + 3) #[.slice (some x) n c] (by omega)).trans (show W2.drew.heap[w.heap.size + 3]? = _ from hr2)
          refine Plan.store (by rfl) 24 (.tmp 4) (.tmp 34) rfl (w.heap.size + 2) #[.slice (some x) n c] rfl rfl 24 _ (show W2.drew.heap[w.heap.size + 2]? = _ from hq2) map_info rfl (by simp [Value.oneCell']) ⟨map_row hx6, entry_row ho6⟩ ?_
          simp only [Act.put]
          have hx7 := (setRow_other (W2.drew.setRow (w.heap.size + 2) #[.slice (some x) n c]) (w.heap.size + 3) w.heap.size #[.int .i64 yb, .int .i64 yk, .int .i64 yv, .int .i64 ym, .int .i64 yz, .int .i64 yo] (by omega)).trans hx6
          have ho7 := (setRow_other (W2.drew.setRow (w.heap.size + 2) #[.slice (some x) n c]) (w.heap.size + 3) g2 #[.int .i64 yb, .int .i64 yk, .int .i64 yv, .int .i64 ym, .int .i64 yz, .int .i64 yo] (by omega)).trans ho6
          refine Plan.store (by rfl) 28 (.tmp 5) (.tmp 35) rfl (w.heap.size + 3) #[.int .i64 yb, .int .i64 yk, .int .i64 yv, .int .i64 ym, .int .i64 yz, .int .i64 yo] rfl rfl 28 _ hr6 entry_info rfl (by simp [Value.oneCell']) ⟨map_row hx7, entry_row ho7⟩ ?_
          simp only [Act.put]
          repeat (first | (refine Plan.take ?_ (by rfl) ?_ ?_; rotate_left; (· rintro w9 ⟨u0, u1, u2, u3, u4, u5, u6⟩; go_simp; (try rw [if_neg (by omega)]); all_goals (with_reducible rfl)); simp only [Act.put, List.setIfInBounds_toArray, List.set_cons_zero, List.set_cons_succ]) | (refine Plan.pass (by rfl) ?_; simp only [Act.put, List.setIfInBounds_toArray, List.set_cons_zero, List.set_cons_succ]))
          refine Plan.ends ?_
          have hqf := (setRow_other (W2.drew.setRow (w.heap.size + 2) #[.slice (some x) n c]) (w.heap.size + 3) (w.heap.size + 2) #[.int .i64 yb, .int .i64 yk, .int .i64 yv, .int .i64 ym, .int .i64 yz, .int .i64 yo] (by omega)).trans (setRow_heap W2.drew (w.heap.size + 2) _ #[.slice (some x) n c] _ _ (show W2.drew.heap[w.heap.size + 2]? = _ from hq2))
          have hrf := setRow_heap (W2.drew.setRow (w.heap.size + 2) #[.slice (some x) n c]) (w.heap.size + 3) _ #[.int .i64 yb, .int .i64 yk, .int .i64 yv, .int .i64 ym, .int .i64 yz, .int .i64 yo] _ _ hr6
          have bf := below_setRow (below_setRow b2.drew (show w.heap.size ≤ w.heap.size + 2 by omega) #[.slice (some x) n c]) (show w.heap.size ≤ w.heap.size + 3 by omega) #[.int .i64 yb, .int .i64 yk, .int .i64 yv, .int .i64 ym, .int .i64 yz, .int .i64 yo]
          have M9 := HEND.out _ b2.drew #[.slice (some x) n c] #[.int .i64 yb, .int .i64 yk, .int .i64 yv, .int .i64 ym, .int .i64 yz, .int .i64 yo]
          generalize (W2.drew.setRow (w.heap.size + 2) #[.slice (some x) n c]).setRow (w.heap.size + 3) #[.int .i64 yb, .int .i64 yk, .int .i64 yv, .int .i64 ym, .int .i64 yz, .int .i64 yo] = w9 at *
          clear hx2 hq2 hr2 ho2 hx6 ho6 hr6 hx7 ho7
          go_wp2_with fail
          exact bodyPost_ret (results_cct (p := 4) (q := 5) (r := 6) rfl _ _ _ _ _ _ _ _ _ _ _ _ rfl rfl hqf Try.underlying24 rfl map_info hrf Try.underlying28 rfl entry_info) rfl ⟨_, _, _, rfl, by rw [hRS.out]; exact M9, bf⟩
        · have hRS := Lib.hid (HT.out rfl)
          clear HT HF
          go_wp2_with fail
          refine Plan.start (fun W => (W.cell? ⟨g, 0, none⟩ = some (.slice (some x) n c) ∧ W.cell? ⟨g, 1, none⟩ = some (.int .i64 k)) ∧ Six W g2 yb yk yv ym yz yo) [(0, true), (1, true), (3, true), (2, false), (4, false), (5, false), (6, true)] (by kernel_rfl) (by kernel_rfl) (by kernel_rfl) (by kernel_rfl) ⟨part_row hp2, entry_row ho2⟩ ?_
          simp only [List.map_cons, List.map_nil, List.getElem?_toArray, List.getElem?_cons_zero, List.getElem?_cons_succ]
          repeat (first | (refine Plan.take ?_ (by rfl) ?_ ?_; rotate_left; (· rintro w9 ⟨⟨u0, u1⟩, u2, u3, u4, u5, u6, u7⟩; go_simp; (try rw [if_neg (by omega)]); all_goals (with_reducible rfl)); simp only [Act.put, List.setIfInBounds_toArray, List.set_cons_zero, List.set_cons_succ]) | (refine Plan.pass (by rfl) ?_; simp only [Act.put, List.setIfInBounds_toArray, List.set_cons_zero, List.set_cons_succ]))
          refine Plan.call (by rfl) 41 _ ?_ HW.out ?_
          · go_simp
          rintro e9 w6 ⟨g6, c6, rfl, l6, h6⟩
          have hp6 := e_on h6 (show W2.drew.heap[g]? = _ from hp2) (e_lt hp2)
          have ho6 := e_on h6 (show W2.drew.heap[g2]? = _ from ho2) (e_lt ho2)
          have hq6 := e_on h6 (show W2.drew.heap[w.heap.size + 2]? = _ from hq2) (e_lt hq2)
          have hr6 := e_on h6 (show W2.drew.heap[w.heap.size + 3]? = _ from hr2) (e_lt hr2)
          have b6 := b2.drew.trans (h6.mono b2.drew.size)
          refine ⟨_, rfl, ⟨part_row hp6, entry_row ho6⟩, ?_⟩
          simp only [Act.put, List.setIfInBounds_toArray, List.set_cons_zero, List.set_cons_succ]
          repeat (first | (refine Plan.take ?_ (by rfl) ?_ ?_; rotate_left; (· rintro w9 ⟨⟨u0, u1⟩, u2, u3, u4, u5, u6, u7⟩; go_simp; (try rw [if_neg (by omega)]); all_goals (with_reducible rfl)); simp only [Act.put, List.setIfInBounds_toArray, List.set_cons_zero, List.set_cons_succ]) | (refine Plan.pass (by rfl) ?_; simp only [Act.put, List.setIfInBounds_toArray, List.set_cons_zero, List.set_cons_succ]))
          have hp7 := (setRow_other w6 (w.heap.size + 2) g #[.slice (some ⟨g6, 0, none⟩) n c6] (by omega)).trans hp6
          have ho7 := (setRow_other w6 (w.heap.size + 2) g2 #[.slice (some ⟨g6, 0, none⟩) n c6] (by omega)).trans ho6
          have hr7 := (setRow_other w6 (w.heap.size + 2) (w.heap.size + 3) #[.slice (some ⟨g6, 0, none⟩) n c6] (by omega)).trans hr6
          refine Plan.store (by rfl) 24 (.tmp 4) (.tmp 38) rfl (w.heap.size + 2) #[.slice (some ⟨g6, 0, none⟩) n c6] rfl rfl 24 _ hq6 map_info rfl (by simp [Value.oneCell']) ⟨part_row hp7, entry_row ho7⟩ ?_
          simp only [Act.put]
          have hp8 := (setRow_other (w6.setRow (w.heap.size + 2) #[.slice (some ⟨g6, 0, none⟩) n c6]) (w.heap.size + 3) g #[.int .i64 yb, .int .i64 yk, .int .i64 yv, .int .i64 ym, .int .i64 yz, .int .i64 yo] (by omega)).trans hp7
          have ho8 := (setRow_other (w6.setRow (w.heap.size + 2) #[.slice (some ⟨g6, 0, none⟩) n c6]) (w.heap.size + 3) g2 #[.int .i64 yb, .int .i64 yk, .int .i64 yv, .int .i64 ym, .int .i64 yz, .int .i64 yo] (by omega)).trans ho7
          refine Plan.store (by rfl) 28 (.tmp 5) (.tmp 39) rfl (w.heap.size + 3) #[.int .i64 yb, .int .i64 yk, .int .i64 yv, .int .i64 ym, .int .i64 yz, .int .i64 yo] rfl rfl 28 _ hr7 entry_info rfl (by simp [Value.oneCell']) ⟨part_row hp8, entry_row ho8⟩ ?_
          simp only [Act.put]
          repeat (first | (refine Plan.take ?_ (by rfl) ?_ ?_; rotate_left; (· rintro w9 ⟨⟨u0, u1⟩, u2, u3, u4, u5, u6, u7⟩; go_simp; (try rw [if_neg (by omega)]); all_goals (with_reducible rfl)); simp only [Act.put, List.setIfInBounds_toArray, List.set_cons_zero, List.set_cons_succ]) | (refine Plan.pass (by rfl) ?_; simp only [Act.put, List.setIfInBounds_toArray, List.set_cons_zero, List.set_cons_succ]))
          refine Plan.ends ?_
          have hqf := (setRow_other (w6.setRow (w.heap.size + 2) #[.slice (some ⟨g6, 0, none⟩) n c6]) (w.heap.size + 3) (w.heap.size + 2) #[.int .i64 yb, .int .i64 yk, .int .i64 yv, .int .i64 ym, .int .i64 yz, .int .i64 yo] (by omega)).trans (setRow_heap w6 (w.heap.size + 2) _ #[.slice (some ⟨g6, 0, none⟩) n c6] _ _ hq6)
          have hrf := setRow_heap (w6.setRow (w.heap.size + 2) #[.slice (some ⟨g6, 0, none⟩) n c6]) (w.heap.size + 3) _ #[.int .i64 yb, .int .i64 yk, .int .i64 yv, .int .i64 ym, .int .i64 yz, .int .i64 yo] _ _ hr7
          have bf := below_setRow (below_setRow b6 (show w.heap.size ≤ w.heap.size + 2 by omega) #[.slice (some ⟨g6, 0, none⟩) n c6]) (show w.heap.size ≤ w.heap.size + 3 by omega) #[.int .i64 yb, .int .i64 yk, .int .i64 yv, .int .i64 ym, .int .i64 yz, .int .i64 yo]
          have hN : ∀ b, Plus (Plus (fun b => F b ∧ b < w.heap.size) W1.heap.size) W2.drew.heap.size b → b ≠ w.heap.size + 2 ∧ b ≠ w.heap.size + 3 ∧ Plus F w.heap.size b := fun b h => by
            have h7 : W2.drew.heap.size = W2.heap.size := rfl
            rcases h with (h | h) | h
            · exact ⟨by have := h.2; omega, by have := h.2; omega, .inl h.1⟩
            · exact ⟨by omega, by omega, .inr (by omega)⟩
            · exact ⟨by omega, by omega, .inr (by omega)⟩
          have M9 := ((l6.on (Same.row (r := w.heap.size + 2) (fun h9 => (hN _ h9).1 rfl) #[.slice (some ⟨g6, 0, none⟩) n c6])).on (Same.row (r := w.heap.size + 3) (fun h9 => (hN _ h9).2.1 rfl) #[.int .i64 yb, .int .i64 yk, .int .i64 yv, .int .i64 ym, .int .i64 yz, .int .i64 yo])).mono (G := Plus F w.heap.size) (fun b _ h9 => (hN b h9).2.2)
          generalize (w6.setRow (w.heap.size + 2) #[.slice (some ⟨g6, 0, none⟩) n c6]).setRow (w.heap.size + 3) #[.int .i64 yb, .int .i64 yk, .int .i64 yv, .int .i64 ym, .int .i64 yz, .int .i64 yo] = w9 at *
          clear hx2 hq2 hr2 ho2 hp2 ho6 hq6 hr6 hp6 hp7 ho7 hr7 hp8 ho8 l6 l2
          go_wp2_with fail
          exact bodyPost_ret (results_cct (p := 4) (q := 5) (r := 6) rfl _ _ _ _ _ _ _ _ _ _ _ _ rfl rfl hqf Try.underlying24 rfl map_info hrf Try.underlying28 rfl entry_info) rfl ⟨_, _, _, rfl, by rw [hRS.out]; exact M9, bf⟩
end Go.Proofs.Ytljobnfilnbefaa.Ents

/- The walk of the program's New of a map; the program keeps what is asked. -/
namespace Go.Proofs.Ytljobnfilnbefaa.Ents
open Go.RowKit Plan EntMath
set_option maxHeartbeats 2000000 in
set_option maxRecDepth 20000 in
theorem mnew_any (s : Int) (w : World) : Calls Try.prog 12 #[.int .i64 s] w fun r w' => ∃ a n c, r = .returned (.tuple #[mapV a n c, .int .i64 (newME s)]) ∧ MList w' (fun b => w.heap.size ≤ b) a n c (newM s) ∧ Below w.heap.size w w' := by
  have hA := (Below.refl w.heap.size w).alloc (Nat.le_refl _) (mapRow none 0 0)
  have hr0 := heap_alloc_new w (mapRow none 0 0)
  have HP := Lib.hid (mpossible_any s)
  by_cases hs : 1 ≤ s ∧ s ≤ 8
  · have h1 : newM s = List.replicate s.toNat [] := if_pos hs
    have h2 : newME s = 0 := if_pos hs
    rw [decide_eq_true hs] at HP
    obtain ⟨n, rfl⟩ : ∃ n : Nat, s = (n : Int) := ⟨s.toNat, by omega⟩
    rw [Int.toNat_natCast] at h1
    have hmk := fun w => run_make_row' (P := Try.prog) 22 49 (.slice none 0 0) 24 Try.underlying22 sl_row rfl .i64 .i64 n (by omega) (by omega) w
    have hr1 := e_al hr0 (.cells (madeCells #[(.slice none 0 0 : Value)] n) 49)
    have hB := hA.alloc hA.size (.cells (madeCells #[(.slice none 0 0 : Value)] n) 49)
    have hrow := World.rowIs_made (w.alloc (mapRow none 0 0)) (.slice none 0 0) n 49
    rw [World.size_alloc] at hrow
    have HROW := Lib.hid hrow
    have H1 := Lib.hid h1
    have H2 := Lib.hid h2
    clear hrow h1 h2
    go_enter Try.func12, Try.ntmps12
    go_wp2_with (first
      | (go_at_call 34; ((with_reducible refine (HP.out _).mono ?_); rintro e9 w1 ⟨rfl, rfl⟩))
      | ((with_reducible refine Plan.store_lit 24 (.tmp 2) _ w.heap.size ?_ hr1 ?_ ?_ ?_ ?_ ?_ ?_); rotate_left; (· rfl); (· rfl); (· exact map_info); (· rfl); (· simp [Value.oneCell']); simp only [Act.put]))
    refine bodyPost_ret (Plan.results_cell_tmp (p := 2) (q := 3) rfl _ _ _ _ _ _ _ rfl (setRow_heap _ _ _ _ _ _ hr1) Try.underlying24 rfl map_info) rfl ⟨_, _, _, by rw [H2.out]; rfl, ?_, below_setRow hB (Nat.le_refl _) _⟩
    rw [H1.out]
    have hn : n ≤ maxLen := by unfold maxLen; omega
    have hR := HROW.out.of_block (setRow_other ((w.alloc (mapRow none 0 0)).alloc (.cells (madeCells #[(.slice none 0 0 : Value)] n) 49)) w.heap.size (w.heap.size + 1) #[.slice (some ⟨w.heap.size + 1, 0, none⟩) n n] (by omega))
    refine .inr ⟨_, rfl, Nat.le_refl _, hn, by simp, hR.lt, by show w.heap.size ≤ w.heap.size + 1; omega, fun i L hi => ?_⟩
    have hin := (List.getElem?_eq_some_iff.1 hi).1
    rw [List.length_replicate] at hin
    rw [List.getElem?_replicate, if_pos hin] at hi
    obtain rfl := Option.some.inj hi
    exact ⟨none, 0, 0, by rw [Addr.add_lit, Nat.zero_add]; exact hR.cell hin, EList.nil _ _⟩
  · have h1 : newM s = [] := if_neg hs
    have h2 : newME s = 1 := if_neg hs
    rw [decide_eq_false hs] at HP
    have H1 := Lib.hid h1
    have H2 := Lib.hid h2
    clear h1 h2
    go_enter Try.func12, Try.ntmps12
    go_wp2_with (first
      | (go_at_call 34; ((with_reducible refine (HP.out _).mono ?_); rintro e9 w1 ⟨rfl, rfl⟩))
      | ((with_reducible refine Plan.store_lit 24 (.tmp 2) _ w.heap.size ?_ hr0 ?_ ?_ ?_ ?_ ?_ ?_); rotate_left; (· rfl); (· rfl); (· exact map_info); (· rfl); (· simp [Value.oneCell']); simp only [Act.put]))
    exact bodyPost_ret (Plan.results_cell_tmp (p := 2) (q := 3) rfl _ _ _ _ _ _ _ rfl (setRow_heap _ _ _ _ _ _ hr0) Try.underlying24 rfl map_info) rfl ⟨_, _, _, by rw [H2.out]; rfl, by rw [H1.out]; exact MList.nil _ _, below_setRow hA (Nat.le_refl _) _⟩
theorem mapOk : MapOk where
  new := mnew_any
  valid := fun F Ls a n c w hl _ => mvalid_any F Ls a n c w hl
  stripe := fun F Ls b a n c w hl => stripe_any F Ls b a n c w hl
  lookup := fun F Ls b a n c w hl hm => mlookup_any F Ls b a n c w hl hm
  install := fun F Ls e a n c w _ hl hm => minstall_any F Ls e a n c w hl hm
  relocate := fun F Ls b v fz fo tz tq m a n c w _ hl hm => mrelocate_any F Ls b v fz fo tz tq m a n c w hl hm
  drop := fun F Ls i cut a n c w _ hl hm => mdrop_any F Ls i cut a n c w hl hm
  all := fun F Ls a n c w _ hl hm => mall_any F Ls a n c w hl hm
end Go.Proofs.Ytljobnfilnbefaa.Ents

/- Two maps in two boxes beside the dice: what L2pShards keeps to. -/
namespace Go.Proofs.Ytljobnfilnbefaa.Ents
open Go.RowKit Plan EntMath
abbrev TF (B A A2 : Nat) : Nat → Prop := fun b => B ≤ b ∧ b ≠ A ∧ b ≠ A2
/-- two maps in two boxes, and the dice -/
structure Two (W W0 : World) (B A A2 base g : Nat) (L : List Int) (k : Nat) (a : Option Addr) (n c : Nat) (Ls : List (List Ent)) (a2 : Option Addr) (n2 c2 : Nat) (Ms : List (List Ent)) : Prop where
  m : W.heap[A]? = some (mapRow a n c)
  m2 : W.heap[A2]? = some (mapRow a2 n2 c2)
  l : MList W (TF B A A2) a n c Ls
  l2 : MList W (TF B A A2) a2 n2 c2 Ms
  d : Dice W base g L k
  b : Below base W0 W
section
variable {W W0 : World} {B A A2 base g : Nat} {L : List Int} {k n c n2 c2 : Nat} {a a2 : Option Addr} {Ls Ms : List (List Ent)}
theorem Two.on (h : Two W W0 B A A2 base g L k a n c Ls a2 n2 c2 Ms) {W' : World} (hb : Below W.heap.size W W') : Two W' W0 B A A2 base g L k a n c Ls a2 n2 c2 Ms :=
  ⟨e_on hb h.m (e_lt h.m), e_on hb h.m2 (e_lt h.m2), h.l.on (Same.below hb), h.l2.on (Same.below hb), dice_on h.d hb (Nat.le_refl _), h.b.trans (hb.mono (Nat.le_trans (dice_base h.d) (Nat.le_of_lt (dice_lt h.d))))⟩
theorem Two.al (h : Two W W0 B A A2 base g L k a n c Ls a2 n2 c2 Ms) (o : Obj) : Two (W.alloc o) W0 B A A2 base g L k a n c Ls a2 n2 c2 Ms := h.on ((Below.refl _ _).alloc (Nat.le_refl _) o)
theorem Two.dr (h : Two W W0 B A A2 base g L k a n c Ls a2 n2 c2 Ms) : Two W.drew W0 B A A2 base g L k a n c Ls a2 n2 c2 Ms :=
  ⟨h.m, h.m2, h.l.on ⟨Nat.le_refl _, fun _ _ _ => rfl⟩, h.l2.on ⟨Nat.le_refl _, fun _ _ _ => rfl⟩, dice_drew h.d, h.b.drew⟩
theorem Two.next (h : Two W W0 B A A2 base g L k a n c Ls a2 n2 c2 Ms) (hg : g < B ∧ B ≤ A ∧ B ≤ A2) {W' : World} {k' : Nat} (hd : Dice W' base g L k') (hw : W.grownBy W' (some g)) : Two W' W0 B A A2 base g L k' a n c Ls a2 n2 c2 Ms :=
  have hs : Same (TF B A A2) W W' := ⟨hw.size, fun b hb hl => hw.block b hl (fun e => by have h8 := Option.some.inj e; have := hb.1; omega)⟩
  ⟨ent_row_grown hw h.m (by omega), ent_row_grown hw h.m2 (by omega), h.l.on hs, h.l2.on hs, hd, h.b.grown hw (Nat.le_trans (dice_base h.d) (Nat.le_of_lt (dice_lt h.d))) (fun z hz => by obtain rfl := Option.some.inj hz; exact dice_base hd)⟩
theorem Two.one (h : Two W W0 B A A2 base g L k a n c Ls a2 n2 c2 Ms) (hg : g < B ∧ B ≤ A ∧ B ≤ A2) (hne : A ≠ A2) {W' : World} (hb : Below W.heap.size W W') {a' : Option Addr} {n' c' : Nat} {Ls' : List (List Ent)} (hl : MList W' (Plus (TF B A A2) W.heap.size) a' n' c' Ls') :
    Two (W'.setRow A #[.slice a' n' c']) W0 B A A2 base g L k a' n' c' Ls' a2 n2 c2 Ms := by
  have h' := h.on hb
  have l1 := e_lt h.m
  have l2 := e_lt h.m2
  have hbs := dice_base h.d
  exact ⟨setRow_heap _ _ _ _ _ _ h'.m, (setRow_other _ _ _ _ (fun e => hne e.symm)).trans h'.m2,
    (hl.mono (G := TF B A A2) (fun b _ h9 => by rcases h9 with h9 | h9; (· exact h9); (· exact ⟨by omega, by omega, by omega⟩))).on (Same.row (r := A) (fun h9 => h9.2.1 rfl) _), h'.l2.on (Same.row (r := A) (fun h9 => h9.2.1 rfl) _), dice_far h'.d (sm_setRow W' A _) (by omega), below_setRow h'.b (by omega) _⟩
theorem Two.two (h : Two W W0 B A A2 base g L k a n c Ls a2 n2 c2 Ms) (hg : g < B ∧ B ≤ A ∧ B ≤ A2) (hne : A ≠ A2) {W' : World} (hb : Below W.heap.size W W') {a' : Option Addr} {n' c' : Nat} {Ms' : List (List Ent)} (hl : MList W' (Plus (TF B A A2) W.heap.size) a' n' c' Ms') :
    Two (W'.setRow A2 #[.slice a' n' c']) W0 B A A2 base g L k a n c Ls a' n' c' Ms' := by
  have h' := h.on hb
  have l1 := e_lt h.m
  have l2 := e_lt h.m2
  have hbs := dice_base h.d
  exact ⟨(setRow_other _ _ _ _ hne).trans h'.m, setRow_heap _ _ _ _ _ _ h'.m2, h'.l.on (Same.row (r := A2) (fun h9 => h9.2.2 rfl) _),
    (hl.mono (G := TF B A A2) (fun b _ h9 => by rcases h9 with h9 | h9; (· exact h9); (· exact ⟨by omega, by omega, by omega⟩))).on (Same.row (r := A2) (fun h9 => h9.2.2 rfl) _), dice_far h'.d (sm_setRow W' A2 _) (by omega), below_setRow h'.b (by omega) _⟩
end
theorem u8_eight {u : Int} (h : (Lit.int .u8 u).wf = true) : wrap64 u = u ∧ (0 ≤ u ∧ u ≤ 255) ∧ ∃ P : Int, u.tmod 8 = P ∧ 0 ≤ P ∧ P ≤ 7 := by
  have h1 : 0 ≤ u ∧ u ≤ 255 := by
    simp [Lit.wf, IntKind.min, IntKind.max, IntKind.signed, IntKind.bits] at h
    omega
  refine ⟨by unfold wrap64; omega, h1, _, rfl, ?_⟩
  rw [Int.tmod_eq_emod_of_nonneg h1.1]
  omega
theorem newM_some {P : Int} (h : 0 ≤ P ∧ P ≤ 7) : ∃ n : Nat, 1 ≤ n ∧ n ≤ 8 ∧ newM (1 + P) = List.replicate n [] ∧ newME (1 + P) = 0 := by
  refine ⟨(1 + P).toNat, by omega, by omega, ?_, ?_⟩
  · unfold newM; rw [if_pos (by omega)]
  · unfold newME; rw [if_pos (by omega)]
theorem reloc_set_len (L : List Ent) (b v fz fo tz tq m : Int) : (relocL L b v fz fo tz tq m).length ≤ L.length := by
  unfold relocL
  split
  · rename_i hv
    split
    · split
      · exact Nat.le_refl _
      · rename_i x hx
        have hb := look_block hx
        rw [← ins_set (moved x tz tq m) x (by show lookE L x.block = some x; rw [hb]; exact hx) (valid_iff.1 hv).2, List.length_set]
        exact Nat.le_refl _
    · exact Nat.le_refl _
  · exact Nat.zero_le _
theorem getD_len (Ls : List (List Ent)) (i : Nat) (M : List Ent) (h : M.length ≤ (Ls.getD i []).length) : ((Ls.set i M).flatten).length ≤ Ls.flatten.length := by
  have := flat_set Ls i M
  omega
theorem relocM_flat (Ls : List (List Ent)) (b v fz fo tz tq m : Int) : ((relocM Ls b v fz fo tz tq m).flatten).length ≤ Ls.flatten.length := by
  unfold relocM
  split
  · exact getD_len _ _ _ (reloc_set_len ..)
  · exact Nat.le_refl _
theorem stay_len (L : List Ent) (cut : Int) : (stayL L cut).length ≤ L.length := by
  unfold stayL
  split
  · exact List.length_filter_le _ _
  · simp
theorem dropM_flat (Ls : List (List Ent)) (i cut : Int) : ((dropM Ls i cut).flatten).length ≤ Ls.flatten.length := by
  unfold dropM
  split
  · exact Nat.le_refl _
  · exact getD_len _ _ _ (stay_len ..)
theorem drops_flat (Ls : List (List Ent)) (cut : Int) (k : Nat) : ((dropsM Ls cut k).flatten).length ≤ Ls.flatten.length := by
  induction k with
  | zero => exact Nat.le_refl _
  | succ k ih => exact Nat.le_trans (dropM_flat _ _ _) ih
theorem three_ways (N : Int) : ((N == 0) = true) ∨ ((N == 0) = false ∧ (N == 1) = true) ∨ ((N == 0) = false ∧ (N == 1) = false) := by
  cases N == 0 <;> cases N == 1 <;> simp
theorem look_vars {f : FuncId} {args : Array Value} {w : World} {Ls : List (List Ent)} {b : Int} (h : Calls Try.prog f args w fun r w' => r = .returned (lookV Ls b) ∧ Below w.heap.size w w') :
    Calls Try.prog f args w fun r w' => ∃ (xb xk xv xm xz xo : Int) (th : Bool), r = .returned (.tuple #[.agg #[.int .i64 xb, .int .i64 xk, .int .i64 xv, .int .i64 xm, .int .i64 xz, .int .i64 xo], .bool th]) ∧ Below w.heap.size w w' :=
  h.mono fun _ _ h => ⟨_, _, _, _, _, _, _, h.1, h.2⟩
end Go.Proofs.Ytljobnfilnbefaa.Ents

/- A map in a box, an array of nine entries and the dice: what L2pFinds keeps to. -/
namespace Go.Proofs.Ytljobnfilnbefaa.Ents
open Go.RowKit Plan EntMath
abbrev nineRow (V : List Ent) : Obj := .cells (ents V).toArray 57
structure Solo (W W0 : World) (B A Q base g : Nat) (L : List Int) (k : Nat) (a : Option Addr) (n c : Nat) (Ls : List (List Ent)) (V : List Ent) : Prop where
  m : W.heap[A]? = some (mapRow a n c)
  q : W.heap[Q]? = some (nineRow V)
  l : MList W (TF B A Q) a n c Ls
  d : Dice W base g L k
  b : Below base W0 W
section
variable {W W0 : World} {B A Q base g : Nat} {L : List Int} {k n c : Nat} {a : Option Addr} {Ls : List (List Ent)} {V : List Ent}
theorem Solo.on (h : Solo W W0 B A Q base g L k a n c Ls V) {W' : World} (hb : Below W.heap.size W W') : Solo W' W0 B A Q base g L k a n c Ls V :=
  ⟨e_on hb h.m (e_lt h.m), e_on hb h.q (e_lt h.q), h.l.on (Same.below hb), dice_on h.d hb (Nat.le_refl _), h.b.trans (hb.mono (Nat.le_trans (dice_base h.d) (Nat.le_of_lt (dice_lt h.d))))⟩
theorem Solo.al (h : Solo W W0 B A Q base g L k a n c Ls V) (o : Obj) : Solo (W.alloc o) W0 B A Q base g L k a n c Ls V := h.on ((Below.refl _ _).alloc (Nat.le_refl _) o)
theorem Solo.dr (h : Solo W W0 B A Q base g L k a n c Ls V) : Solo W.drew W0 B A Q base g L k a n c Ls V :=
  ⟨h.m, h.q, h.l.on ⟨Nat.le_refl _, fun _ _ _ => rfl⟩, dice_drew h.d, h.b.drew⟩
theorem Solo.next (h : Solo W W0 B A Q base g L k a n c Ls V) (hg : g < B ∧ B ≤ A ∧ B ≤ Q) {W' : World} {k' : Nat} (hd : Dice W' base g L k') (hw : W.grownBy W' (some g)) : Solo W' W0 B A Q base g L k' a n c Ls V :=
  have hs : Same (TF B A Q) W W' := ⟨hw.size, fun b hb hl => hw.block b hl (fun e => by have h8 := Option.some.inj e; have := hb.1; omega)⟩
  ⟨ent_row_grown hw h.m (by omega), ent_row_grown hw h.q (by omega), h.l.on hs, hd, h.b.grown hw (Nat.le_trans (dice_base h.d) (Nat.le_of_lt (dice_lt h.d))) (fun z hz => by obtain rfl := Option.some.inj hz; exact dice_base hd)⟩
/-- another map in the box -/
theorem Solo.box (h : Solo W W0 B A Q base g L k a n c Ls V) (hg : g < B ∧ B ≤ A ∧ B ≤ Q) (hne : A ≠ Q) {a' : Option Addr} {n' c' : Nat} {Ls' : List (List Ent)} (hl : MList W (TF B A Q) a' n' c' Ls') :
    Solo (W.setRow A #[.slice a' n' c']) W0 B A Q base g L k a' n' c' Ls' V := by
  have hbs := dice_base h.d
  exact ⟨setRow_heap _ _ _ _ _ _ h.m, (setRow_other _ _ _ _ (fun e => hne e.symm)).trans h.q, hl.on (Same.row (r := A) (fun h9 => h9.2.1 rfl) _), dice_far h.d (sm_setRow W A _) (by omega), below_setRow h.b (by omega) _⟩
end
theorem fresh_list {W : World} {B A Q n c : Nat} {a : Option Addr} {Ls : List (List Ent)} {W' : World} (h : MList W' (Plus (TF B A Q) W.heap.size) a n c Ls) (hA : A < W.heap.size) (hQ : Q < W.heap.size) (hB : B ≤ A) : MList W' (TF B A Q) a n c Ls :=
  h.mono (fun b _ h9 => by rcases h9 with h9 | h9; (· exact h9); (· exact ⟨by omega, by omega, by omega⟩))
theorem nine_at {W : World} {Q i : Nat} {V : List Ent} {e : Ent} (h : W.heap[Q]? = some (nineRow V)) (he : V[i]? = some e) :
    W.cell? ⟨Q, i * 6, none⟩ = some (.int .i64 e.block) ∧ W.cell? ⟨Q, i * 6 + 1, none⟩ = some (.int .i64 e.kind) ∧ W.cell? ⟨Q, i * 6 + 2, none⟩ = some (.int .i64 e.version) ∧ W.cell? ⟨Q, i * 6 + 3, none⟩ = some (.int .i64 e.move) ∧ W.cell? ⟨Q, i * 6 + 4, none⟩ = some (.int .i64 e.zone) ∧ W.cell? ⟨Q, i * 6 + 5, none⟩ = some (.int .i64 e.offset) := by
  have hc : ∀ j, j < 6 → W.cell? ⟨Q, i * 6 + j, none⟩ = (entC e)[j]? := fun j hj => by
    rw [← ents_get he j hj]
    have := cell_of_row W Q (i * 6 + j) _ _ _ h
    simpa using this
  exact ⟨hc 0 (by omega), hc 1 (by omega), hc 2 (by omega), hc 3 (by omega), hc 4 (by omega), hc 5 (by omega)⟩
theorem nine_there {W : World} {Q i : Nat} {V : List Ent} (h : W.heap[Q]? = some (nineRow V)) (hl : V.length = 9) (hi : i < 9) : W.there Q (i * 6) 6 := by
  intro j hj
  have he : V[i]? = some (V[i]'(by omega)) := List.getElem?_eq_getElem _
  have hx := ents_get he j hj
  have h1 := cell_of_row W Q (i * 6 + j) _ _ _ h
  have h2 : (ents V).toArray[i * 6 + j]? = (ents V)[i * 6 + j]? := by simp
  have hjl : j < (entC (V[i]'(by omega))).length := by simp [entC]; omega
  refine ⟨?_, by simp [World.frozen?, h]⟩
  rw [h1, h2, hx, List.getElem?_eq_getElem hjl]
  rfl
theorem nine_set {W : World} {Q k : Nat} {V : List Ent} (h : W.heap[Q]? = some (nineRow V)) (hk : k < V.length) (e : Ent) : (W.setCells Q (k * 6) (entC e)).heap[Q]? = some (nineRow (V.set k e)) := by
  have h6 := map_sc (j := k * 6 + 5) (u := .int .i64 e.offset) (map_sc (j := k * 6 + 4) (u := .int .i64 e.zone) (map_sc (j := k * 6 + 3) (u := .int .i64 e.move) (map_sc (j := k * 6 + 2) (u := .int .i64 e.version) (map_sc (j := k * 6 + 1) (u := .int .i64 e.kind) (map_sc (j := k * 6) (u := .int .i64 e.block) h)))))
  refine Eq.trans h6 ?_
  unfold nineRow
  rw [ents_set hk]
  simp only [List.setIfInBounds_toArray]
theorem cells_other (W : World) (Q o b : Nat) (e : Ent) (hb : b ≠ Q) : (W.setCells Q o (entC e)).heap[b]? = W.heap[b]? := by
  have h1 : ∀ (W : World) o v, (W.setCell ⟨Q, o, none⟩ v).heap[b]? = W.heap[b]? := fun W o v => Below.heap_setCell W ⟨Q, o, none⟩ v b hb
  show ((((((W.setCell ⟨Q, o, none⟩ _).setCell ⟨Q, o + 1, none⟩ _).setCell ⟨Q, o + 2, none⟩ _).setCell ⟨Q, o + 3, none⟩ _).setCell ⟨Q, o + 4, none⟩ _).setCell ⟨Q, o + 5, none⟩ _).heap[b]? = _
  rw [h1, h1, h1, h1, h1, h1]
theorem cells_size (W : World) (Q o : Nat) (e : Ent) : (W.setCells Q o (entC e)).heap.size = W.heap.size := by
  show ((((((W.setCell ⟨Q, o, none⟩ _).setCell ⟨Q, o + 1, none⟩ _).setCell ⟨Q, o + 2, none⟩ _).setCell ⟨Q, o + 3, none⟩ _).setCell ⟨Q, o + 4, none⟩ _).setCell ⟨Q, o + 5, none⟩ _).heap.size = _
  simp [World.setCell]
theorem sm_cell1 (w : World) (x : Nat) (j : Nat) (v : Value) : w.grownBy (w.setCell ⟨x, j, none⟩ v) (some x) :=
  ⟨rfl, rfl, rfl, Nat.le_of_eq (by simp [World.setCell]), fun i _ hne => Below.heap_setCell w ⟨x, j, none⟩ v i (fun e => hne (by rw [e]))⟩
theorem sm_setCells (W : World) (Q o : Nat) (e : Ent) : W.grownBy (W.setCells Q o (entC e)) (some Q) :=
  grownBy_trans (grownBy_trans (grownBy_trans (grownBy_trans (grownBy_trans (sm_cell1 W Q o _) (sm_cell1 _ Q (o + 1) _)) (sm_cell1 _ Q (o + 2) _)) (sm_cell1 _ Q (o + 3) _)) (sm_cell1 _ Q (o + 4) _)) (sm_cell1 _ Q (o + 5) _)
theorem same_cells {F : Nat → Prop} {W : World} {Q o : Nat} (hQ : ¬ F Q) (e : Ent) : Same F W (W.setCells Q o (entC e)) :=
  ⟨Nat.le_of_eq (cells_size W Q o e).symm, fun b hb _ => cells_other W Q o b e (fun h => hQ (h ▸ hb))⟩
/-- another entry in the array -/
theorem Solo.want {W W0 : World} {B A Q base g : Nat} {L : List Int} {k n c : Nat} {a : Option Addr} {Ls : List (List Ent)} {V : List Ent} (h : Solo W W0 B A Q base g L k a n c Ls V) (hg : g < B ∧ B ≤ A ∧ B ≤ Q) (hne : A ≠ Q) {i : Nat} (hi : i < V.length) (e : Ent) :
    Solo (W.setCells Q (i * 6) (entC e)) W0 B A Q base g L k a n c Ls (V.set i e) := by
  have hbs := dice_base h.d
  exact ⟨(cells_other _ _ _ _ _ hne).trans h.m, nine_set h.q hi e, h.l.on (same_cells (fun h9 => h9.2.2 rfl) e), dice_far h.d (sm_setCells W Q _ e) (by omega), below_setCells h.b (by omega) e⟩
theorem inst_want {f : FuncId} {args : Array Value} {w : World} {F : Nat → Prop} {Ls : List (List Ent)} {e : Ent} (h : Calls Try.prog f args w (InstMPost w F (installM Ls e) (installME Ls e) (newerM Ls e))) (hv : validM Ls = true) (he : okE e = true) :
    Calls Try.prog f args w fun r w' => ∃ a n c, r = .returned (.tuple #[mapV a n c, entV (wantM Ls e.block), .bool (decide ((wantM Ls e.block).version < e.version))]) ∧ MList w' (Plus F w.heap.size) a n c (installM Ls e) ∧ Below w.heap.size w w' := by
  rw [want_old hv he, want_newer hv he] at h
  exact h
theorem look_want {f : FuncId} {args : Array Value} {w : World} {Ls : List (List Ent)} {b : Int} (h : Calls Try.prog f args w fun r w' => r = .returned (lookV Ls b) ∧ Below w.heap.size w w') :
    Calls Try.prog f args w fun r w' => r = .returned (.tuple #[entV (wantM Ls b), .bool (decide (0 < (wantM Ls b).version))]) ∧ Below w.heap.size w w' := by
  rw [← want_there]
  exact h
theorem look_nine {Ls : List (List Ent)} {e : Ent} (h : validM Ls = true) (he : okE e = true) (hb : e.block ≤ 8) (h9 : lookM Ls 9 = none) : lookM (installM Ls e) 9 = none := by
  rw [look_installM h he (by decide), if_neg (by omega)]
  exact h9
theorem lookV_nine {Ls : List (List Ent)} (h9 : lookM Ls 9 = none) : lookV Ls 9 = .tuple #[.agg #[.int .i64 0, .int .i64 0, .int .i64 0, .int .i64 0, .int .i64 0, .int .i64 0], .bool false] := by
  unfold lookV
  rw [h9]
  rfl
end Go.Proofs.Ytljobnfilnbefaa.Ents

/- The walk of L2pFinds. -/
namespace Go.Proofs.Ytljobnfilnbefaa.Ents
open Go.RowKit Plan EntMath
set_option maxHeartbeats 16000000 in
set_option maxRecDepth 20000 in
theorem mapFinds_any (sa : Option Addr) (len cap : Nat) (zs : List Int) (u : Int) (w : World) (hrow : IsRow .i64 w sa len cap zs) (hu : (Lit.int .u8 u).wf = true) :
    Calls Try.prog 6 #[.slice sa len cap, .int .u8 u] w fun r w' => r = .returned (.bool true) ∧ Below w.heap.size w w' := by
  have hli := light_any sa len cap w
  have HAW := Lib.hid (fun W => mapAwake_any mapOk W)
  by_cases hlen : (len : Int) ≤ 300
  · rw [decide_eq_true hlen] at hli
    have hro := roll_any sa len cap zs w hrow (by omega)
    have hzl : (zs.take len).length ≤ 100000 := by rw [List.length_take]; omega
    generalize zs.take len = L at hro hzl
    unfold RollPost at hro
    have HR := Lib.hid hro
    have HLI := Lib.hid hli
    obtain ⟨ku, u0, PU, eu, pu⟩ := u8_eight hu
    obtain ⟨nu, nu1, nu8, du, fu⟩ := newM_some pu
    have HNU := mnew_any (1 + PU)
    rw [du, fu] at HNU
    have HN1 := Lib.hid HNU
    have HVU := Lib.hid (empty_valid nu1 nu8)
    have hfu : (List.replicate nu ([] : List Ent)).flatten.length = 0 := by simp
    have HW9 := Lib.hid (want9_empty nu)
    have HN9 := Lib.hid (empty_look nu 9)
    have hwu : wrap64 (1 + PU) = 1 + PU := by unfold wrap64; omega
    generalize List.replicate nu ([] : List Ent) = LU at *
    clear hli hro HNU du fu
    go_enter Try.func6, Try.ntmps6
    go_wp2_with (first
      | (go_at_call 10; ((with_reducible refine HLI.out.mono ?_); rintro e w0 ⟨rfl, rfl⟩))
      | (go_at_call 11; ((with_reducible refine HR.out.mono ?_); rintro e w1 ⟨g, rfl, hd1, hb1⟩))
      | (go_at_call 12; ((with_reducible refine (HN1.out _).mono ?_); rintro r9 w2 ⟨a2, n2, c2, rfl, l2, h2⟩; have b2 := (hb1.trans (h2.mono hb1.size)).alloc (hb1.trans (h2.mono hb1.size)).size (mapRow a2 n2 c2); have l2 := l2.cut.on (Same.alloc w2 (mapRow a2 n2 c2)); have m2 := heap_alloc_new w2 (mapRow a2 n2 c2); have d2 := dice_on (dice_on hd1 h2 (Nat.le_refl _)) ((Below.refl _ _).alloc (Nat.le_refl _) (mapRow a2 n2 c2)) (Nat.le_refl _); have z2 := h2.size)))
    have hgB : g < w1.heap.size ∧ w1.heap.size ≤ w2.heap.size ∧ w1.heap.size ≤ w2.heap.size + 1 := ⟨dice_lt hd1, by omega, by omega⟩
    have hne : w2.heap.size ≠ w2.heap.size + 1 := by omega
    have S0 : Solo ((w2.alloc (mapRow a2 n2 c2)).alloc (.cells #[.int .i64 0, .int .i64 0, .int .i64 0, .int .i64 0, .int .i64 0, .int .i64 0, .int .i64 0, .int .i64 0, .int .i64 0, .int .i64 0, .int .i64 0, .int .i64 0, .int .i64 0, .int .i64 0, .int .i64 0, .int .i64 0, .int .i64 0, .int .i64 0, .int .i64 0, .int .i64 0, .int .i64 0, .int .i64 0, .int .i64 0, .int .i64 0, .int .i64 0, .int .i64 0, .int .i64 0, .int .i64 0, .int .i64 0, .int .i64 0, .int .i64 0, .int .i64 0, .int .i64 0, .int .i64 0, .int .i64 0, .int .i64 0, .int .i64 0, .int .i64 0, .int .i64 0, .int .i64 0, .int .i64 0, .int .i64 0, .int .i64 0, .int .i64 0, .int .i64 0, .int .i64 0, .int .i64 0, .int .i64 0, .int .i64 0, .int .i64 0, .int .i64 0, .int .i64 0, .int .i64 0, .int .i64 0] 57)) w w1.heap.size w2.heap.size (w2.heap.size + 1) w.heap.size g L 0 a2 n2 c2 LU (want9 LU) := by
      have hq := heap_second w2 (mapRow a2 n2 c2) (.cells #[.int .i64 0, .int .i64 0, .int .i64 0, .int .i64 0, .int .i64 0, .int .i64 0, .int .i64 0, .int .i64 0, .int .i64 0, .int .i64 0, .int .i64 0, .int .i64 0, .int .i64 0, .int .i64 0, .int .i64 0, .int .i64 0, .int .i64 0, .int .i64 0, .int .i64 0, .int .i64 0, .int .i64 0, .int .i64 0, .int .i64 0, .int .i64 0, .int .i64 0, .int .i64 0, .int .i64 0, .int .i64 0, .int .i64 0, .int .i64 0, .int .i64 0, .int .i64 0, .int .i64 0, .int .i64 0, .int .i64 0, .int .i64 0, .int .i64 0, .int .i64 0, .int .i64 0, .int .i64 0, .int .i64 0, .int .i64 0, .int .i64 0, .int .i64 0, .int .i64 0, .int .i64 0, .int .i64 0, .int .i64 0, .int .i64 0, .int .i64 0, .int .i64 0, .int .i64 0, .int .i64 0, .int .i64 0] 57)
      have hb := b2.alloc b2.size (.cells #[.int .i64 0, .int .i64 0, .int .i64 0, .int .i64 0, .int .i64 0, .int .i64 0, .int .i64 0, .int .i64 0, .int .i64 0, .int .i64 0, .int .i64 0, .int .i64 0, .int .i64 0, .int .i64 0, .int .i64 0, .int .i64 0, .int .i64 0, .int .i64 0, .int .i64 0, .int .i64 0, .int .i64 0, .int .i64 0, .int .i64 0, .int .i64 0, .int .i64 0, .int .i64 0, .int .i64 0, .int .i64 0, .int .i64 0, .int .i64 0, .int .i64 0, .int .i64 0, .int .i64 0, .int .i64 0, .int .i64 0, .int .i64 0, .int .i64 0, .int .i64 0, .int .i64 0, .int .i64 0, .int .i64 0, .int .i64 0, .int .i64 0, .int .i64 0, .int .i64 0, .int .i64 0, .int .i64 0, .int .i64 0, .int .i64 0, .int .i64 0, .int .i64 0, .int .i64 0, .int .i64 0, .int .i64 0] 57)
      refine ⟨e_al m2 _, ?_, (l2.on (Same.alloc _ _)).mono (fun b _ h9 => ⟨h9.1, by have := h9.2; omega, by have := h9.2; omega⟩), dice_on d2 ((Below.refl _ _).alloc (Nat.le_refl _) _) (Nat.le_refl _), hb⟩
      rw [HW9.out]
      exact hq
    generalize hBB : w1.heap.size = B at *
    generalize hA2 : w2.heap.size + 1 = Q at *
    generalize hAA : w2.heap.size = A at *
    generalize hW3 : (w2.alloc (mapRow a2 n2 c2)).alloc (.cells #[.int .i64 0, .int .i64 0, .int .i64 0, .int .i64 0, .int .i64 0, .int .i64 0, .int .i64 0, .int .i64 0, .int .i64 0, .int .i64 0, .int .i64 0, .int .i64 0, .int .i64 0, .int .i64 0, .int .i64 0, .int .i64 0, .int .i64 0, .int .i64 0, .int .i64 0, .int .i64 0, .int .i64 0, .int .i64 0, .int .i64 0, .int .i64 0, .int .i64 0, .int .i64 0, .int .i64 0, .int .i64 0, .int .i64 0, .int .i64 0, .int .i64 0, .int .i64 0, .int .i64 0, .int .i64 0, .int .i64 0, .int .i64 0, .int .i64 0, .int .i64 0, .int .i64 0, .int .i64 0, .int .i64 0, .int .i64 0, .int .i64 0, .int .i64 0, .int .i64 0, .int .i64 0, .int .i64 0, .int .i64 0, .int .i64 0, .int .i64 0, .int .i64 0, .int .i64 0, .int .i64 0, .int .i64 0] 57) = w4 at *
    clear hW3 hA2 hAA hBB m2 l2 d2 b2 hd1 h2 z2 hb1 HW9
    go_loopw [9] (fun x wr => ∃ (j k : Nat) (a : Option Addr) (n c : Nat) (Ls : List (List Ent)), x = .int .i64 (j : Int) ∧ j ≤ 40 ∧ k ≤ 5 * j ∧ Solo wr w B A Q w.heap.size g L k a n c Ls (want9 Ls) ∧ RowKit.Hid (validM Ls = true) ∧ RowKit.Hid (lookM Ls 9 = none) ∧ Ls.flatten.length ≤ j) (fun x _ => 40 - (intOf x).toNat)
    case atStart => exact ⟨0, 0, a2, n2, c2, LU, rfl, by omega, by omega, S0, HVU, HN9, by omega⟩
    case round =>
      clear S0 HVU HN9 hfu
      obtain ⟨j, k, a, n, c, Ls, rfl, hj, hk, S, HV, H9, hf1⟩ := hrel
      have HRS := Lib.hid (rest_dice wr w.heap.size g L k S.d hzl (by omega))
      have HENT := Lib.hid (fun W (hd : Dice W w.heap.size g L k) => rolled9_any W w.heap.size g L k hd hzl)
      have hrest : max (0 : Int) ((L.length : Int) - (k : Int)) = 0 ∨ 0 < max (0 : Int) ((L.length : Int) - (k : Int)) := by omega
      generalize max (0 : Int) ((L.length : Int) - (k : Int)) = RR at *
      have HLO := Lib.hid (fun W k' b (S : Solo W w B A Q w.heap.size g L k' a n c Ls (want9 Ls)) => mlookup_any _ Ls b a n c W S.l (fun _ => by omega))
      by_cases hlt : j < 40
      · have hjI : (j : Int) < 40 := by omega
        have hjd : decide ((j : Int) < 40) = true := by simp; omega
        rcases hrest with hz | hz
        · have hzd : decide ((0 : Int) < RR) = false := by simp; omega
          have S4 := S.dr
          clear S
          generalize wr.drew = wd at *
          have HL9 := HLO.out _ _ 9 S4
          rw [lookV_nine H9.out] at HL9
          have HL := Lib.hid HL9
          clear HL9
          go_wp2_with (first
            | (go_at_call 16; ((with_reducible refine HRS.out.mono ?_); rintro r9 w2 ⟨rfl, rfl⟩))
            | ((with_reducible refine Plan.load_lit 24 (.tmp 6) A ?_ S4.m Try.underlying24 ?_ ?_ ?_); (· rfl); (· rfl); (· exact map_info); simp only [Act.put, List.setIfInBounds_toArray, List.set_cons_zero, List.set_cons_succ])
            | (go_at_call 22; ((with_reducible refine HL.out.mono ?_); rintro r9 w5 ⟨rfl, h5⟩; have S5 := (S4.on h5).al (entRow 0 0 0 0 0 0); clear S4 h5))
            | (go_at_call 9; ((with_reducible refine (HAW.out _).mono ?_); rintro r9 w99 ⟨rfl, h99⟩)))
          go_ret
          exact ⟨rfl, S5.b.trans (h99.mono S5.b.size)⟩
        · have hzd : decide ((0 : Int) < RR) = true := by simpa using hz
          have S4 := S.dr
          clear S
          generalize wr.drew = wd at *
          have HIN := Lib.hid (fun W (e : Ent) (he : okE e = true) (S : Solo W w B A Q w.heap.size g L (stp5 L k) a n c Ls (want9 Ls)) => inst_want (minstall_any _ Ls e a n c W S.l (fun _ => by omega)) HV.out he)
          go_wp2_with (first
            | (go_at_call 16; ((with_reducible refine HRS.out.mono ?_); rintro r9 w2 ⟨rfl, rfl⟩))
            | (go_at_call 17; ((with_reducible refine (HENT.out _ S4.d).mono ?_); rintro r9 w5 ⟨eb, ek, ev, em, ez, eo, rfl, ok5, q5, q6, hd5, hg5⟩; (obtain ⟨eN, rfl⟩ : ∃ eN : Nat, eb = (eN : Int) := ⟨eb.toNat, by omega⟩); have S5 := (S4.next hgB hd5 hg5).al (entRow eN ek ev em ez eo); have e5 := heap_alloc_new w5 (entRow eN ek ev em ez eo); have E1A : A < w5.heap.size ∧ Q < w5.heap.size := ⟨e_lt (S4.next hgB hd5 hg5).m, e_lt (S4.next hgB hd5 hg5).q⟩; have hI := HIN.out _ _ ok5 S5; have hX := want9_at Ls (b := eN) (by omega); try simp only at hI; generalize wantM Ls (eN : Int) = X at hI hX; obtain ⟨xb, xk, xv, xm, xz, xo⟩ := X; try simp only at hI; have HI := Lib.hid hI; have HX := Lib.hid hX; clear hI hX S4 hd5 hg5))
            | ((with_reducible refine Plan.load_lit 24 (.tmp 6) A ?_ S5.m Try.underlying24 ?_ ?_ ?_); (· rfl); (· rfl); (· exact map_info); simp only [Act.put, List.setIfInBounds_toArray, List.set_cons_zero, List.set_cons_succ])
            | ((with_reducible refine Plan.load_lit 28 (.tmp 10) w5.heap.size ?_ e5 Try.underlying28 ?_ ?_ ?_); (· rfl); (· rfl); (· exact entry_info); simp only [Act.put, List.setIfInBounds_toArray, List.set_cons_zero, List.set_cons_succ])
            | (go_at_call 24; ((with_reducible refine HI.out.mono ?_); rintro r9 w6 ⟨a6, n6, c6, rfl, l6, h6⟩; have S6 := S5.on h6; have e6 := e_on h6 e5 (e_lt e5); have E1lt := e_lt e6; clear HI)))
          have S8 := (S6.al (mapRow a6 n6 c6)).al (entRow xb xk xv xm xz xo)
          have n8 := heap_first w6 (mapRow a6 n6 c6) (entRow xb xk xv xm xz xo)
          have o8 := heap_second w6 (mapRow a6 n6 c6) (entRow xb xk xv xm xz xo)
          have e8 := e_al (e_al e6 (mapRow a6 n6 c6)) (entRow xb xk xv xm xz xo)
          have l8 := ((fresh_list l6 (e_lt S5.m) (e_lt S5.q) hgB.2.1).on (Same.alloc w6 (mapRow a6 n6 c6))).on (Same.alloc _ (entRow xb xk xv xm xz xo))
          have z6 : A < w6.heap.size ∧ Q < w6.heap.size := ⟨e_lt S6.m, e_lt S6.q⟩
          have HVX := Lib.hid (validM_install HV.out ok5)
          have HNX := Lib.hid (look_nine HV.out ok5 (show (eN : Int) ≤ 8 by omega) H9.out)
          have f1 := installM_len Ls ⟨eN, ek, ev, em, ez, eo⟩
          generalize hW8 : (w6.alloc (mapRow a6 n6 c6)).alloc (entRow xb xk xv xm xz xo) = w8 at *
          generalize w6.heap.size = N1 at *
          generalize hE1 : w5.heap.size = E1 at *
          clear hW8 hE1 S6 e6 l6 h6 S5 e5
          have hqI : (eN : Int) < 9 := by omega
          have SD := S8.dr
          refine Plan.start (fun W => Six W (N1 + 1) xb xk xv xm xz xo ∧ Six W E1 eN ek ev em ez eo ∧ W.cell? ⟨Q, eN * 6, none⟩ = some (.int .i64 xb) ∧ W.cell? ⟨Q, eN * 6 + 1, none⟩ = some (.int .i64 xk) ∧ W.cell? ⟨Q, eN * 6 + 2, none⟩ = some (.int .i64 xv) ∧ W.cell? ⟨Q, eN * 6 + 3, none⟩ = some (.int .i64 xm) ∧ W.cell? ⟨Q, eN * 6 + 4, none⟩ = some (.int .i64 xz) ∧ W.cell? ⟨Q, eN * 6 + 5, none⟩ = some (.int .i64 xo)) [(0, true), (1, true), (2, true), (3, true), (4, true), (5, true), (6, true), (7, true), (8, true), (9, true), (10, true), (11, true), (12, true), (13, true), (14, true), (15, true), (16, true), (17, true)] (by kernel_rfl) (by kernel_rfl) (by kernel_rfl) (by kernel_rfl) ⟨entry_row o8, entry_row e8, nine_at SD.q HX.out⟩ ?_
          simp only [List.map_cons, List.map_nil, List.getElem?_toArray, List.getElem?_cons_zero, List.getElem?_cons_succ]
          repeat (first | (refine Plan.take ?_ (by rfl) ?_ ?_; rotate_left; (· rintro w9 ⟨⟨u0, u1, u2, u3, u4, u5⟩, ⟨t0, t1, t2, t3, t4, t5⟩, v0, v1, v2, v3, v4, v5⟩; go_simp; (try rw [if_neg (by omega)]); all_goals (with_reducible rfl)); simp only [Act.put, List.setIfInBounds_toArray, List.set_cons_zero, List.set_cons_succ]) | (refine Plan.pass (by rfl) ?_; simp only [Act.put, List.setIfInBounds_toArray, List.set_cons_zero, List.set_cons_succ]))
          refine Plan.ends ?_
          have n9 : w8.drew.heap[N1]? = _ := n8
          have e9 : w8.drew.heap[E1]? = _ := e8
          have l9 : MList w8.drew (TF B A Q) a6 n6 c6 (installM Ls ⟨eN, ek, ev, em, ez, eo⟩) := l8.on ⟨Nat.le_refl _, fun _ _ _ => rfl⟩
          clear n8 o8 e8 l8 S8
          generalize w8.drew = w9 at *
          have hVl := want9_len Ls
          have hq6 : eN < 9 := by omega
          by_cases hvx : xv < ev
          · have hd : decide (xv < ev) = true := by simpa using hvx
            have hNE : newerM Ls ⟨eN, ek, ev, em, ez, eo⟩ = true := by rw [want_newer HV.out ok5]; have := want9_at Ls (b := eN) hq6; rw [HX.out] at this; have h7 := Option.some.inj this; show decide ((wantM Ls (eN : Int)).version < ev) = true; rw [← h7]; exact hd
            have HWN := Lib.hid (want9_next HV.out ok5 hNE)
            have hth := nine_there SD.q hVl hq6
            obtain ⟨c0, c1, c2', c3, c4, c5⟩ := entry_row e9
            clear hNE
            go_wp2_with (first
              | ((with_reducible refine Plan.load_lit 28 (.tmp 10) E1 ?_ e9 Try.underlying28 ?_ ?_ ?_); (· rfl); (· rfl); (· exact entry_info); simp only [Act.put, List.setIfInBounds_toArray, List.set_cons_zero, List.set_cons_succ])
              | ((with_reducible refine idx_store_ent 57 28 73 (.tmp 8) (.tmp 71) (.tmp 72) Q (eN * 6) ⟨eN, ek, ev, em, ez, eo⟩ ?_ ?_ ?_ hth ?_ ?_); (· go_simp); (· rfl); (· rfl); (· exact entry_info); intro x9 ex9; have S9 := SD.want hgB hne (i := eN) (by rw [hVl]; exact hq6) ⟨eN, ek, ev, em, ez, eo⟩; have n10 := (cells_other w9 Q (eN * 6) N1 ⟨eN, ek, ev, em, ez, eo⟩ (by omega)).trans n9; have l10 := l9.on (same_cells (F := TF B A Q) (Q := Q) (o := eN * 6) (fun h9 => h9.2.2 rfl) ⟨eN, ek, ev, em, ez, eo⟩); rw [← ex9] at S9 n10 l10; clear ex9 SD n9 e9 l9 hth c0 c1 c2' c3 c4 c5; simp only [Act.put, List.setIfInBounds_toArray, List.set_cons_zero, List.set_cons_succ])
              | ((with_reducible refine Plan.load_lit 24 (.tmp 11) N1 ?_ n10 Try.underlying24 ?_ ?_ ?_); (· rfl); (· rfl); (· exact map_info); simp only [Act.put, List.setIfInBounds_toArray, List.set_cons_zero, List.set_cons_succ])
              | ((with_reducible refine Plan.store_lit 24 (.tmp 6) _ (A) ?_ S9.m ?_ ?_ ?_ ?_ ?_ ?_); rotate_left; (· rfl); (· rfl); (· exact map_info); (· rfl); (· simp [Value.oneCell']); simp only [Act.put]))
            have S10 := S9.box hgB hne l10
            rw [show ((want9 Ls).set eN ⟨eN, ek, ev, em, ez, eo⟩) = want9 (installM Ls ⟨eN, ek, ev, em, ez, eo⟩) from HWN.out.symm] at S10
            generalize x9.setRow A #[.slice a6 n6 c6] = x10 at *
            clear S9 l10 n10 HWN HX
            generalize installM Ls ⟨eN, ek, ev, em, ez, eo⟩ = LX at *
            clear HLO
            go_loopw [14] (fun y wz => ∃ t : Nat, y = .int .i64 (t : Int) ∧ t ≤ 9 ∧ Solo wz w B A Q w.heap.size g L (stp5 L k) a6 n6 c6 LX (want9 LX)) (fun y _ => 9 - (intOf y).toNat)
            case atStart => exact ⟨0, rfl, by omega, S10⟩
            case round =>
              clear S10
              obtain ⟨t, rfl, ht, S⟩ := hrel
              by_cases ht9 : t < 9
              · have htI : (t : Int) < 9 := by omega
                have hX := want9_at LX (b := t) ht9
                have hLW := look_want (mlookup_any _ LX (t : Int) a6 n6 c6 _ S.l (fun _ => by omega))
                generalize wantM LX (t : Int) = Y at hX hLW
                obtain ⟨yb, yk, yv, ym, yz, yo⟩ := Y
                try simp only at hLW
                have HLW := Lib.hid hLW
                have HX := Lib.hid hX
                clear hLW hX
                go_wp2_with (first
                  | ((with_reducible refine Plan.load_lit 24 (.tmp 6) A ?_ S.m Try.underlying24 ?_ ?_ ?_); (· rfl); (· rfl); (· exact map_info); simp only [Act.put, List.setIfInBounds_toArray, List.set_cons_zero, List.set_cons_succ])
                  | (go_at_call 22; ((with_reducible refine HLW.out.mono ?_); rintro r9 x1 ⟨rfl, h1⟩; have SA := (S.on h1).al (entRow yb yk yv ym yz yo); have y1 := heap_alloc_new x1 (entRow yb yk yv ym yz yo); clear S h1 HLW)))
                generalize hY : x1.heap.size = Y1 at *
                generalize hX1 : x1.alloc (entRow yb yk yv ym yz yo) = x2 at *
                clear hX1 hY
                have SD := SA.dr
                refine Plan.start (fun W => Six W Y1 yb yk yv ym yz yo ∧ W.cell? ⟨Q, t * 6, none⟩ = some (.int .i64 yb) ∧ W.cell? ⟨Q, t * 6 + 1, none⟩ = some (.int .i64 yk) ∧ W.cell? ⟨Q, t * 6 + 2, none⟩ = some (.int .i64 yv) ∧ W.cell? ⟨Q, t * 6 + 3, none⟩ = some (.int .i64 ym) ∧ W.cell? ⟨Q, t * 6 + 4, none⟩ = some (.int .i64 yz) ∧ W.cell? ⟨Q, t * 6 + 5, none⟩ = some (.int .i64 yo)) [(0, true), (1, true), (2, true), (3, true), (4, true), (5, true), (6, true), (7, true), (8, true), (9, true), (10, true), (11, true), (12, true), (13, true)] (by kernel_rfl) (by kernel_rfl) (by kernel_rfl) (by kernel_rfl) ⟨entry_row y1, nine_at SD.q HX.out⟩ ?_
                simp only [List.map_cons, List.map_nil, List.getElem?_toArray, List.getElem?_cons_zero, List.getElem?_cons_succ]
                repeat (first | (refine Plan.take ?_ (by rfl) ?_ ?_; rotate_left; (· rintro w9 ⟨⟨u0, u1, u2, u3, u4, u5⟩, v0, v1, v2, v3, v4, v5⟩; go_simp; (try rw [if_neg (by omega)]); all_goals (with_reducible rfl)); simp only [Act.put, List.setIfInBounds_toArray, List.set_cons_zero, List.set_cons_succ]) | (refine Plan.pass (by rfl) ?_; simp only [Act.put, List.setIfInBounds_toArray, List.set_cons_zero, List.set_cons_succ]))
                refine Plan.ends ?_
                clear y1 SA HX
                go_wp2_with fail
                go_roundw
                case rel => exact ⟨t + 1, by go_num, by omega, SD⟩
                case measure => simp [intOf]; omega
              · obtain rfl : t = 9 := by omega
                go_wp2_with fail
                go_roundw
                case rel => exact ⟨j + 1, stp5 L k, a6, n6, c6, LX, by go_num, by omega, by have := stp5_le L k; omega, S, HVX, HNX, by omega⟩
                case measure => simp [intOf]; omega
          · have hd : decide (xv < ev) = false := by simpa using hvx
            have hNE : newerM Ls ⟨eN, ek, ev, em, ez, eo⟩ = false := by rw [want_newer HV.out ok5]; have := want9_at Ls (b := eN) hq6; rw [HX.out] at this; have h7 := Option.some.inj this; show decide ((wantM Ls (eN : Int)).version < ev) = false; rw [← h7]; exact hd
            have HWN := Lib.hid (want_stays hNE)
            clear hNE
            go_wp2_with (first
              | ((with_reducible refine Plan.load_lit 24 (.tmp 11) N1 ?_ n9 Try.underlying24 ?_ ?_ ?_); (· rfl); (· rfl); (· exact map_info); simp only [Act.put, List.setIfInBounds_toArray, List.set_cons_zero, List.set_cons_succ])
              | ((with_reducible refine Plan.store_lit 24 (.tmp 6) _ (A) ?_ SD.m ?_ ?_ ?_ ?_ ?_ ?_); rotate_left; (· rfl); (· rfl); (· exact map_info); (· rfl); (· simp [Value.oneCell']); simp only [Act.put]))
            have S10 := SD.box hgB hne l9
            rw [show want9 Ls = want9 (installM Ls ⟨eN, ek, ev, em, ez, eo⟩) by rw [HWN.out]] at S10
            generalize w9.setRow A #[.slice a6 n6 c6] = x10 at *
            clear SD l9 n9 e9 HWN HX
            generalize installM Ls ⟨eN, ek, ev, em, ez, eo⟩ = LX at *
            clear HLO
            go_loopw [14] (fun y wz => ∃ t : Nat, y = .int .i64 (t : Int) ∧ t ≤ 9 ∧ Solo wz w B A Q w.heap.size g L (stp5 L k) a6 n6 c6 LX (want9 LX)) (fun y _ => 9 - (intOf y).toNat)
            case atStart => exact ⟨0, rfl, by omega, S10⟩
            case round =>
              clear S10
              obtain ⟨t, rfl, ht, S⟩ := hrel
              by_cases ht9 : t < 9
              · have htI : (t : Int) < 9 := by omega
                have hX := want9_at LX (b := t) ht9
                have hLW := look_want (mlookup_any _ LX (t : Int) a6 n6 c6 _ S.l (fun _ => by omega))
                generalize wantM LX (t : Int) = Y at hX hLW
                obtain ⟨yb, yk, yv, ym, yz, yo⟩ := Y
                try simp only at hLW
                have HLW := Lib.hid hLW
                have HX := Lib.hid hX
                clear hLW hX
                go_wp2_with (first
                  | ((with_reducible refine Plan.load_lit 24 (.tmp 6) A ?_ S.m Try.underlying24 ?_ ?_ ?_); (· rfl); (· rfl); (· exact map_info); simp only [Act.put, List.setIfInBounds_toArray, List.set_cons_zero, List.set_cons_succ])
                  | (go_at_call 22; ((with_reducible refine HLW.out.mono ?_); rintro r9 x1 ⟨rfl, h1⟩; have SA := (S.on h1).al (entRow yb yk yv ym yz yo); have y1 := heap_alloc_new x1 (entRow yb yk yv ym yz yo); clear S h1 HLW)))
                generalize hY : x1.heap.size = Y1 at *
                generalize hX1 : x1.alloc (entRow yb yk yv ym yz yo) = x2 at *
                clear hX1 hY
                have SD := SA.dr
                refine Plan.start (fun W => Six W Y1 yb yk yv ym yz yo ∧ W.cell? ⟨Q, t * 6, none⟩ = some (.int .i64 yb) ∧ W.cell? ⟨Q, t * 6 + 1, none⟩ = some (.int .i64 yk) ∧ W.cell? ⟨Q, t * 6 + 2, none⟩ = some (.int .i64 yv) ∧ W.cell? ⟨Q, t * 6 + 3, none⟩ = some (.int .i64 ym) ∧ W.cell? ⟨Q, t * 6 + 4, none⟩ = some (.int .i64 yz) ∧ W.cell? ⟨Q, t * 6 + 5, none⟩ = some (.int .i64 yo)) [(0, true), (1, true), (2, true), (3, true), (4, true), (5, true), (6, true), (7, true), (8, true), (9, true), (10, true), (11, true), (12, true), (13, true)] (by kernel_rfl) (by kernel_rfl) (by kernel_rfl) (by kernel_rfl) ⟨entry_row y1, nine_at SD.q HX.out⟩ ?_
                simp only [List.map_cons, List.map_nil, List.getElem?_toArray, List.getElem?_cons_zero, List.getElem?_cons_succ]
                repeat (first | (refine Plan.take ?_ (by rfl) ?_ ?_; rotate_left; (· rintro w9 ⟨⟨u0, u1, u2, u3, u4, u5⟩, v0, v1, v2, v3, v4, v5⟩; go_simp; (try rw [if_neg (by omega)]); all_goals (with_reducible rfl)); simp only [Act.put, List.setIfInBounds_toArray, List.set_cons_zero, List.set_cons_succ]) | (refine Plan.pass (by rfl) ?_; simp only [Act.put, List.setIfInBounds_toArray, List.set_cons_zero, List.set_cons_succ]))
                refine Plan.ends ?_
                clear y1 SA HX
                go_wp2_with fail
                go_roundw
                case rel => exact ⟨t + 1, by go_num, by omega, SD⟩
                case measure => simp [intOf]; omega
              · obtain rfl : t = 9 := by omega
                go_wp2_with fail
                go_roundw
                case rel => exact ⟨j + 1, stp5 L k, a6, n6, c6, LX, by go_num, by omega, by have := stp5_le L k; omega, S, HVX, HNX, by omega⟩
                case measure => simp [intOf]; omega
      · have hjd : decide ((j : Int) < 40) = false := by simp; omega
        have hjI : ¬ (j : Int) < 40 := by omega
        have S4 := S
        clear S
        have HL9 := HLO.out _ _ 9 S4
        rw [lookV_nine H9.out] at HL9
        have HL := Lib.hid HL9
        clear HL9
        go_wp2_with (first
          | ((with_reducible refine Plan.load_lit 24 (.tmp 6) A ?_ S4.m Try.underlying24 ?_ ?_ ?_); (· rfl); (· rfl); (· exact map_info); simp only [Act.put, List.setIfInBounds_toArray, List.set_cons_zero, List.set_cons_succ])
          | (go_at_call 22; ((with_reducible refine HL.out.mono ?_); rintro r9 w5 ⟨rfl, h5⟩; have S5 := (S4.on h5).al (entRow 0 0 0 0 0 0); clear S4 h5))
          | (go_at_call 9; ((with_reducible refine (HAW.out _).mono ?_); rintro r9 w99 ⟨rfl, h99⟩)))
        go_ret
        exact ⟨rfl, S5.b.trans (h99.mono S5.b.size)⟩
  · have hld : decide ((len : Int) ≤ 300) = false := by simpa using hlen
    rw [hld] at hli
    have HLI := Lib.hid hli
    go_enter Try.func6, Try.ntmps6
    go_wp2_with (first
      | (go_at_call 10; ((with_reducible refine HLI.out.mono ?_); rintro e w0 ⟨rfl, rfl⟩))
      | (go_at_call 9; ((with_reducible refine (HAW.out _).mono ?_); rintro r9 w99 ⟨rfl, h99⟩)))
    go_ret
    exact ⟨rfl, h99⟩
end Go.Proofs.Ytljobnfilnbefaa.Ents

/- L2pFinds: the program's map finds for each block the entry that was installed last with a greater version, and nothing for blocks of which none was installed. No condition. -/
namespace Go.Proofs.Ytljobnfilnbefaa.l2pFinds
open Go.ChangeShapes Go.WideShapes Go.ChangeAt Go.RowKit
open Go.ChangeMaps (open_string shut_string)
set_option linter.unusedVariables false

theorem own : ownKnob Try.prog.godebug = none := by kernel_rfl
theorem laidOut : laidOutB Try.prog = true := by kernel_rfl

theorem walk (a0 : Option Addr) (l0 c0 : Nat) (z0 : List Int) (a1 : Int) (w1 : (Lit.int .u8 a1).wf = true) (w : World) (w0 : IsRow .i64 w a0 l0 c0 z0) :
    Calls Try.prog 6 #[.slice a0 l0 c0, .int .u8 a1] w fun e w' => e = .returned (.bool true) ∧ Below w.heap.size w w' := by
  exact Ents.mapFinds_any a0 l0 c0 z0 a1 w w0 w1

set_option maxRecDepth 100000 in
theorem lifted (os : Os) (started : os.Started) (H : Type) (enc : TypeId × Value → H) :
    ReturnsInHanded {} Try.checked os 6 .any (Rows.l2pFindsSpec.pre6 enc Try.prog Try.f6 Rows.l2pFindsRow.domain false) (Rows.l2pFindsSpec.post enc Try.prog Try.f6 false true false false) := by
  refine returnsInHanded_of_change (C := Try.checked) own started (by kernel_rfl) Try.func6
    (ChangeSpec.witness6 (enc := enc) (C := Try.checked) false ⟨#[], #[.slice none 0 0, .int .u8 0], []⟩ 8 (by kernel_rfl) (by kernel_rfl) (by kernel_rfl) (by kernel_rfl)) ?_
  intro W base args ds gs before hval0 hW hcnd _
  have hval : ∀ (j : Nat) t v, Try.f6.params[j]? = some t → args[j]? = some v → Value.okWide Try.prog W .any base t v := hval0
  have hW' := hW
  obtain ⟨p, q, hA0, hV, rfl, hfz, hnd⟩ := hW
  have hA : DataW.TrodAll enc Try.prog W 0 (fun _ => true) true Try.f6.params.toList args.toList ds p := hA0
  rw [Try.params6] at hA hval
  obtain ⟨v0, vs0, d0, ds0, p0, q0, hargs, rfl, rfl, h0, r0⟩ := trodAll_cons hA
  obtain ⟨v1, vs1, d1, ds1, p1, q1, rfl, rfl, rfl, h1, r1⟩ := trodAll_cons r0
  obtain ⟨rfl, rfl, rfl⟩ := trodAll_nil r1
  obtain rfl : args = #[v0, v1] := by cases args; simp_all
  obtain ⟨rfl, rfl⟩ := trodVars_none hV
  have k0' := h0
  have lt0 : ∀ x ∈ p0, x.block < W.heap.size := by obtain ⟨m, hm⟩ := h0; exact DataW.trod_lt m _ _ _ hm
  have k1' := h1
  have lt1 : ∀ x ∈ p1, x.block < W.heap.size := by obtain ⟨m, hm⟩ := h1; exact DataW.trod_lt m _ _ _ hm
  obtain ⟨a0, l0, c0, rfl⟩ := okWide_slice Try.underlying32 (hval 0 32 v0 rfl rfl)
  obtain ⟨z0, w0⟩ : ∃ zs, IsRow .i64 W a0 l0 c0 zs := by
    obtain ⟨fuel, hf⟩ := h0
    rcases open_ints Try.underlying32 Try.underlying3 (by kernel_rfl) hf with ⟨hcs, _⟩ | ⟨x, l, c, zs, hcs, _, hl, hm, hz, _, hcell, hwz⟩
    · simp [Value.cells] at hcs
      obtain ⟨rfl, rfl, rfl⟩ := hcs
      exact ⟨[], .inl ⟨rfl, rfl, rfl, rfl⟩⟩
    · simp [Value.cells] at hcs
      obtain ⟨rfl, rfl, rfl⟩ := hcs
      exact ⟨zs, .inr ⟨_, rfl, hl, hm, by simpa using hz, hcell, hwz⟩⟩
  obtain ⟨a1, rfl, _, _, w1⟩ := open_int Try.underlying5 (hval 1 5 v1 rfl rfl) h1
  clear hA0 hval0
  refine (walk a0 l0 c0 z0 a1 w1 W w0).mono fun e W' ⟨he, bel⟩ => ?_
  subst he
  exact ⟨_, rfl, _, _, _, [], _, [], hW', trodAll_mk1 (shut_bool Try.underlying4 _), (trodAll_cons_mk (Below.trod laidOut (by kernel_rfl) (of_decide_eq_true (by kernel_rfl)) k0' bel lt0) (trodAll_cons_mk (Below.trod laidOut (by kernel_rfl) (of_decide_eq_true (by kernel_rfl)) k1' bel lt1) trodAll_mk0)), rfl, bel.frame _, fun h => by cases h⟩

theorem over : Rows.l2pFindsRow.holds Try.pinned (OpenSpec.ofChange Rows.l2pFindsSpec) :=
  OpenClaim.holds_of_wide 6 Try.f6 rfl rfl rfl rfl rfl rfl rfl ⟨rfl, rfl, rfl, rfl, rfl⟩ rfl rfl rfl rfl rfl (by kernel_rfl) Try.func6 (by kernel_rfl)
    (of_decide_eq_true (by kernel_rfl)) (by unfold Func.isWrapper; first | (rw [if_pos (by decide +kernel)]; kernel_rfl) | (rw [if_neg (by decide +kernel)]; exact ⟨rfl, rfl⟩))
    (fun os started H enc _ => lifted os started H enc)
end Go.Proofs.Ytljobnfilnbefaa.l2pFinds

namespace Go.Proofs.Ytljobnfilnbefaa
theorem l2pFinds_holds : Rows.L2pFindsSaid := l2pFinds.over
end Go.Proofs.Ytljobnfilnbefaa
