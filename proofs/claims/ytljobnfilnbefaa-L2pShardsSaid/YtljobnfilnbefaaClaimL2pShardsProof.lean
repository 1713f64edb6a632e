/- L2pShards: after the same installs, relocations and drops of all shards, two maps with any numbers of shards have the same entries. No condition. -/
import Derived.Test.YtljobnfilnbefaaPack9
import Derived.Test.YtljobnfilnbefaaRows
import Derived.Deep.DeepCutAuto
import Derived.Deep.OwnRows
import Derived.WalkKit
import Derived.ProofKit
import Derived.SliceStrings
import Derived.OpenShut
import Derived.ShutString
import Derived.ChangeOld
import Derived.Carry
import Derived.Below

/- The walk of the program's Lookup of a map. -/
namespace Go.Proofs.Ytljobnfilnbefaa.Ents
open Go.RowKit Plan EntMath
theorem part_stripe (Ls : List (List Ent)) (b : Int) : partB Ls (stripe Ls b) = (validM Ls && decide (0 ≤ b)) := by
  unfold partB
  cases hv : validM Ls
  · rfl
  · have h1 := (validM_iff.1 hv).1
    by_cases hb : 0 ≤ b
    · rw [stripe_eq hv hb, decide_eq_true hb, decide_eq_true (show 0 ≤ (st Ls b : Int) by omega), decide_eq_true (show (st Ls b : Int) < (Ls.length : Int) by have := st_lt hv b; omega)]
      rfl
    · have : stripe Ls b = -1 := by unfold stripe; rw [if_pos (by omega)]
      rw [this, decide_eq_false hb]
      rfl
set_option maxHeartbeats 8000000 in
set_option maxRecDepth 20000 in
theorem mlookup_any (F : Nat → Prop) (Ls : List (List Ent)) (b : Int) (a : Option Addr) (n c : Nat) (w : World) (hl : MList w F a n c Ls) (hm : Near Ls) :
    Calls Try.prog 22 #[mapV a n c, .int .i64 b] w fun r w' => r = .returned (lookV Ls b) ∧ Below w.heap.size w w' := by
  have hlen := hl.length
  have hb0 := ((Below.refl w.heap.size w).alloc (Nat.le_refl _) (mapRow a n c)).alloc (by simp) (entRow 0 0 0 0 0 0)
  have hr0 := heap_second w (mapRow a n c) (entRow 0 0 0 0 0 0)
  have hx0 := heap_first w (mapRow a n c) (entRow 0 0 0 0 0 0)
  have HS := Lib.hid (fun W (h : Below w.heap.size w W) => stripe_any _ Ls b a n c W (hl.same h))
  have HP := Lib.hid (fun W (h : Below w.heap.size w W) => partOf_any _ Ls (stripe Ls b) a n c W (hl.same h))
  rw [part_stripe] at HP
  have hcases : ((validM Ls && decide (0 ≤ b)) = false ∧ lookV Ls b = .tuple #[.agg #[.int .i64 0, .int .i64 0, .int .i64 0, .int .i64 0, .int .i64 0, .int .i64 0], .bool false]) ∨ ((validM Ls && decide (0 ≤ b)) = true ∧ validM Ls = true ∧ 0 ≤ b) := by
    cases hg : (validM Ls && decide (0 ≤ b))
    · refine .inl ⟨rfl, lookV_no fun h => ?_⟩
      rw [h.1, decide_eq_true h.2] at hg
      cases hg
    · rw [Bool.and_eq_true, decide_eq_true_eq] at hg
      exact .inr ⟨rfl, hg⟩
  rcases hcases with ⟨hg, hv⟩ | ⟨hg, hva, h0⟩
  · have H1 := Lib.hid hv
    clear hv
    generalize lookV Ls b = V at *
    rw [hg] at HP
    generalize hST : stripe Ls b = ST at *
    clear hST hg hl hm
    have c0 := Below.refl ((w.alloc (mapRow a n c)).alloc (entRow 0 0 0 0 0 0)).heap.size ((w.alloc (mapRow a n c)).alloc (entRow 0 0 0 0 0 0))
    go_enter Try.func22, Try.ntmps22
    generalize hw0 : (w.alloc (mapRow a n c)).alloc (entRow 0 0 0 0 0 0) = w0 at *
    go_upto_region 1 with fail
    go_cut [6, 7] (fun s6 s7 wx => ∃ g : Nat, s6 = .pointer (some ⟨g, 0, none⟩) ∧ s7 = .bool false ∧ w0.heap.size ≤ g ∧ wx.heap[g]? = some (partRow a n c ST) ∧ Below w0.heap.size w0 wx)
    case first =>
      refine Tree.start (fun W => W.cell? ⟨w.heap.size, 0, none⟩ = some (.slice a n c)) (.take 0 (.take 1 (.take 2 (.fork 3 (.fork 4 (.take 5 (.take 6 (.take 7 (.only 8 (.only 9 (.take 10 (.done))))))) 8 (.only 4 (.take 5 (.take 6 (.take 7 (.only 9 (.take 10 (.done)))))))) 8 (.only 3 (.only 4 (.take 5 (.take 6 (.take 7 (.only 9 (.take 10 (.done)))))))))))) (by kernel_rfl) (by kernel_rfl) (by kernel_rfl) (by kernel_rfl) (map_row (e_on (c0.drew) hx0 (e_lt hx0))) ?_
      simp only [Tree.T.map, List.getElem?_toArray, List.getElem?_cons_zero, List.getElem?_cons_succ]
      repeat (first | (refine Tree.take ?_ (by rfl) ?_ ?_; rotate_left; (· rintro w9 u0; go_simp; (try rw [if_neg (by omega)]); all_goals (with_reducible rfl)); simp only [Act.put, List.setIfInBounds_toArray, List.set_cons_zero, List.set_cons_succ]))
      have c9 := c0.drew
      refine Tree.fork (by rfl) (by rfl) ?_ ?_
      · refine Tree.wp_call 29 _ ?_ (HS.out _ (hb0.trans (c9.mono hb0.size))) ?_
        · go_simp
        rintro e9 w1 ⟨rfl, h1⟩
        have c1 := c9.trans (h1.mono c9.size)
        refine ⟨_, rfl, (map_row (e_on (c1) hx0 (e_lt hx0))), ?_⟩
        simp only [Act.put, List.setIfInBounds_toArray, List.set_cons_zero, List.set_cons_succ]
        repeat (first | (refine Tree.take ?_ (by rfl) ?_ ?_; rotate_left; (· rintro w9 u0; go_simp; (try rw [if_neg (by omega)]); all_goals (with_reducible rfl)); simp only [Act.put, List.setIfInBounds_toArray, List.set_cons_zero, List.set_cons_succ]))
        refine Tree.fork (by rfl) (by rfl) ?_ ?_
        · refine Tree.wp_call 38 _ ?_ (HP.out _ (hb0.trans (c1.mono hb0.size))) ?_
          · go_simp
          rintro e9 w2 ⟨rfl, h2⟩
          have c2 := c1.trans (h2.mono c1.size)
          refine ⟨_, rfl, (map_row (e_on (c2) hx0 (e_lt hx0))), ?_⟩
          simp only [Act.put, List.setIfInBounds_toArray, List.set_cons_zero, List.set_cons_succ]
          repeat (first | (refine Tree.take ?_ (by rfl) ?_ ?_; rotate_left; (· rintro w9 u0; go_simp; (try rw [if_neg (by omega)]); all_goals (with_reducible rfl)); simp only [Act.put, List.setIfInBounds_toArray, List.set_cons_zero, List.set_cons_succ]))
          refine Tree.only (by rfl) ?_
          have g3 := heap_alloc_new w2 (partRow none 0 0 0)
          have c3 := c2.alloc c2.size (partRow none 0 0 0)
          have q3 : w0.heap.size ≤ (w2).heap.size := c2.size
          generalize hG3 : (w2).heap.size = G at *
          refine Tree.wp_make (.pointer (some ⟨G, 0, none⟩)) ((w2).alloc (partRow none 0 0 0)) ?_ ⟨map_row (e_on (c3) hx0 (e_lt hx0)), ?_⟩
          · rw [← hG3]; go_simp
          clear hG3
          generalize (w2).alloc (partRow none 0 0 0) = v3 at *
          simp only [Act.put, List.setIfInBounds_toArray, List.set_cons_zero, List.set_cons_succ]
          repeat (first | (refine Tree.take ?_ (by rfl) ?_ ?_; rotate_left; (· rintro w9 u0; go_simp; (try rw [if_neg (by omega)]); all_goals (with_reducible rfl)); simp only [Act.put, List.setIfInBounds_toArray, List.set_cons_zero, List.set_cons_succ]))
          have c4 := below_setRow c3 q3 #[.slice a n c, .int .i64 ST]
          have g4 := setRow_heap v3 G _ #[.slice a n c, .int .i64 ST] _ _ g3
          refine Tree.only (by rfl) (wp_store_row 70 _ _ rfl G #[.slice a n c, .int .i64 ST] (by rfl) (by rfl) 70 _ g3 part_info rfl (by simp [Value.oneCell']) ⟨map_row (e_on (c4) hx0 (e_lt hx0)), ?_⟩)
          simp only [Act.put]
          repeat (first | (refine Tree.take ?_ (by rfl) ?_ ?_; rotate_left; (· rintro w9 u0; go_simp; (try rw [if_neg (by omega)]); all_goals (with_reducible rfl)); simp only [Act.put, List.setIfInBounds_toArray, List.set_cons_zero, List.set_cons_succ]))
          refine Tree.ends ?_
          go_wp2_with fail
          go_meet
          exact ⟨G, rfl, rfl, q3, g4, c4⟩
        · have g2 := heap_alloc_new w1 (partRow none 0 0 0)
          have c2 := c1.alloc c1.size (partRow none 0 0 0)
          have q2 : w0.heap.size ≤ (w1).heap.size := c1.size
          generalize hG2 : (w1).heap.size = G at *
          refine Tree.wp_make (.pointer (some ⟨G, 0, none⟩)) ((w1).alloc (partRow none 0 0 0)) ?_ ⟨map_row (e_on (c2) hx0 (e_lt hx0)), ?_⟩
          · rw [← hG2]; go_simp
          clear hG2
          generalize (w1).alloc (partRow none 0 0 0) = v2 at *
          simp only [Act.put, List.setIfInBounds_toArray, List.set_cons_zero, List.set_cons_succ]
          repeat (first | (refine Tree.take ?_ (by rfl) ?_ ?_; rotate_left; (· rintro w9 u0; go_simp; (try rw [if_neg (by omega)]); all_goals (with_reducible rfl)); simp only [Act.put, List.setIfInBounds_toArray, List.set_cons_zero, List.set_cons_succ]))
          refine Tree.only (by rfl) ?_
          refine Tree.wp_call 38 _ ?_ (HP.out _ (hb0.trans (c2.mono hb0.size))) ?_
          · go_simp
          rintro e9 w3 ⟨rfl, h3⟩
          have c3 := c2.trans (h3.mono c2.size)
          have g3 := e_on h3 g2 (e_lt g2)
          refine ⟨_, rfl, (map_row (e_on (c3) hx0 (e_lt hx0))), ?_⟩
          simp only [Act.put, List.setIfInBounds_toArray, List.set_cons_zero, List.set_cons_succ]
          repeat (first | (refine Tree.take ?_ (by rfl) ?_ ?_; rotate_left; (· rintro w9 u0; go_simp; (try rw [if_neg (by omega)]); all_goals (with_reducible rfl)); simp only [Act.put, List.setIfInBounds_toArray, List.set_cons_zero, List.set_cons_succ]))
          have c4 := below_setRow c3 q2 #[.slice a n c, .int .i64 ST]
          have g4 := setRow_heap w3 G _ #[.slice a n c, .int .i64 ST] _ _ g3
          refine Tree.only (by rfl) (wp_store_row 70 _ _ rfl G #[.slice a n c, .int .i64 ST] (by rfl) (by rfl) 70 _ g3 part_info rfl (by simp [Value.oneCell']) ⟨map_row (e_on (c4) hx0 (e_lt hx0)), ?_⟩)
          simp only [Act.put]
          repeat (first | (refine Tree.take ?_ (by rfl) ?_ ?_; rotate_left; (· rintro w9 u0; go_simp; (try rw [if_neg (by omega)]); all_goals (with_reducible rfl)); simp only [Act.put, List.setIfInBounds_toArray, List.set_cons_zero, List.set_cons_succ]))
          refine Tree.ends ?_
          go_wp2_with fail
          go_meet
          exact ⟨G, rfl, rfl, q2, g4, c4⟩
      · have g1 : (w0.drew.alloc (partRow none 0 0 0)).heap[w0.heap.size]? = some (partRow none 0 0 0) := heap_alloc_new w0.drew (partRow none 0 0 0)
        have c1 := c9.alloc c9.size (partRow none 0 0 0)
        have q1 : w0.heap.size ≤ w0.heap.size := Nat.le_refl _
        refine Tree.wp_make (.pointer (some ⟨w0.heap.size, 0, none⟩)) (w0.drew.alloc (partRow none 0 0 0)) ?_ ⟨map_row (e_on (c1) hx0 (e_lt hx0)), ?_⟩
        · go_simp
        generalize w0.drew.alloc (partRow none 0 0 0) = v1 at *
        simp only [Act.put, List.setIfInBounds_toArray, List.set_cons_zero, List.set_cons_succ]
        repeat (first | (refine Tree.take ?_ (by rfl) ?_ ?_; rotate_left; (· rintro w9 u0; go_simp; (try rw [if_neg (by omega)]); all_goals (with_reducible rfl)); simp only [Act.put, List.setIfInBounds_toArray, List.set_cons_zero, List.set_cons_succ]))
        refine Tree.only (by rfl) ?_
        refine Tree.wp_call 29 _ ?_ (HS.out _ (hb0.trans (c1.mono hb0.size))) ?_
        · go_simp
        rintro e9 w2 ⟨rfl, h2⟩
        have c2 := c1.trans (h2.mono c1.size)
        have g2 := e_on h2 g1 (e_lt g1)
        refine ⟨_, rfl, (map_row (e_on (c2) hx0 (e_lt hx0))), ?_⟩
        simp only [Act.put, List.setIfInBounds_toArray, List.set_cons_zero, List.set_cons_succ]
        repeat (first | (refine Tree.take ?_ (by rfl) ?_ ?_; rotate_left; (· rintro w9 u0; go_simp; (try rw [if_neg (by omega)]); all_goals (with_reducible rfl)); simp only [Act.put, List.setIfInBounds_toArray, List.set_cons_zero, List.set_cons_succ]))
        refine Tree.only (by rfl) ?_
        refine Tree.wp_call 38 _ ?_ (HP.out _ (hb0.trans (c2.mono hb0.size))) ?_
        · go_simp
        rintro e9 w3 ⟨rfl, h3⟩
        have c3 := c2.trans (h3.mono c2.size)
        have g3 := e_on h3 g2 (e_lt g2)
        refine ⟨_, rfl, (map_row (e_on (c3) hx0 (e_lt hx0))), ?_⟩
        simp only [Act.put, List.setIfInBounds_toArray, List.set_cons_zero, List.set_cons_succ]
        repeat (first | (refine Tree.take ?_ (by rfl) ?_ ?_; rotate_left; (· rintro w9 u0; go_simp; (try rw [if_neg (by omega)]); all_goals (with_reducible rfl)); simp only [Act.put, List.setIfInBounds_toArray, List.set_cons_zero, List.set_cons_succ]))
        have c4 := below_setRow c3 q1 #[.slice a n c, .int .i64 ST]
        have g4 := setRow_heap w3 w0.heap.size _ #[.slice a n c, .int .i64 ST] _ _ g3
        refine Tree.only (by rfl) (wp_store_row 70 _ _ rfl w0.heap.size #[.slice a n c, .int .i64 ST] (by rfl) (by rfl) 70 _ g3 part_info rfl (by simp [Value.oneCell']) ⟨map_row (e_on (c4) hx0 (e_lt hx0)), ?_⟩)
        simp only [Act.put]
        repeat (first | (refine Tree.take ?_ (by rfl) ?_ ?_; rotate_left; (· rintro w9 u0; go_simp; (try rw [if_neg (by omega)]); all_goals (with_reducible rfl)); simp only [Act.put, List.setIfInBounds_toArray, List.set_cons_zero, List.set_cons_succ]))
        refine Tree.ends ?_
        go_wp2_with fail
        go_meet
        exact ⟨w0.heap.size, rfl, rfl, q1, g4, c4⟩
    case rest =>
      obtain ⟨g, rfl, rfl, hg, hgr, hc1⟩ := hcut
      have hr1 := e_on hc1 hr0 (e_lt hr0)
      have b1 := hb0.trans (hc1.mono hb0.size)
      go_wp2_with (first
        | ((with_reducible refine Plan.store_lit 28 (.tmp 4) _ (w.heap.size + 1) ?_ hr1 ?_ ?_ ?_ ?_ ?_ ?_); rotate_left; (· rfl); (· rfl); (· exact entry_info); (· rfl); (· simp [Value.oneCell']); simp only [Act.put]))
      exact bodyPost_ret (Plan.results_cell_tmp (p := 4) (q := 5) rfl _ _ _ _ _ _ _ rfl (setRow_heap _ _ _ _ _ _ hr1) Try.underlying28 rfl entry_info) rfl ⟨e_v H1.out.symm, below_setRow b1 (show w.heap.size ≤ w.heap.size + 1 by omega) _⟩
  · rw [lookV_find hva h0]
    have hst := st_lt hva b
    rw [hlen] at hst
    have hat := shard_at hva b
    obtain ⟨x, L, b', m, kk, rfl, hL, hcc, hle⟩ := hl.at' (st Ls b) hst
    rw [hat] at hL
    obtain rfl := Option.some.inj hL
    have hme := flat_each (hm (validM_iff.1 hva).1.2) _ (List.mem_of_getElem? hat)
    have hml := hle.length
    have HPIN := Lib.hid (pin hcc hle)
    have hxlt : x.block < w.heap.size := by
      have := World.block_lt_of_cell? w _ hcc
      rwa [ent_add_block] at this
    have HLI := Lib.hid (fun W (h : Below w.heap.size w W) => plist_any x n c (st Ls b) b' m kk W hst (Nat.lt_of_lt_of_le hxlt h.size) (HPIN.out W h).1)
    have HFI := Lib.hid (fun W (h : Below w.heap.size w W) => find_any _ (shardOf Ls b) b b' m kk W (HPIN.out W h).2 (by omega))
    rw [stripe_eq hva h0] at HS HP
    unfold findV at HFI ⊢
    generalize (findE (shardOf Ls b) b).isSome = IS at *
    generalize (findE (shardOf Ls b) b).getD zeroE = Y at *
    obtain ⟨yb, yk, yv, ym, yz, yo⟩ := Y
    try simp only at HFI
    clear hva h0 hat hcc hle hme hml
    generalize hSt : st Ls b = k at *
    clear hSt
    rw [hg] at HP
    generalize hST : (k : Int) = ST at HS HP
    clear hg hl hm
    have c0 := Below.refl ((w.alloc (mapRow (some x) n c)).alloc (entRow 0 0 0 0 0 0)).heap.size ((w.alloc (mapRow (some x) n c)).alloc (entRow 0 0 0 0 0 0))
    go_enter Try.func22, Try.ntmps22
    generalize hw0 : (w.alloc (mapRow (some x) n c)).alloc (entRow 0 0 0 0 0 0) = w0 at *
    go_upto_region 1 with fail
    go_cut [6, 7] (fun s6 s7 wx => ∃ g : Nat, s6 = .pointer (some ⟨g, 0, none⟩) ∧ s7 = .bool true ∧ w0.heap.size ≤ g ∧ wx.heap[g]? = some (partRow (some x) n c ST) ∧ Below w0.heap.size w0 wx)
    case first =>
      refine Tree.start (fun W => W.cell? ⟨w.heap.size, 0, none⟩ = some (.slice (some x) n c)) (.take 0 (.take 1 (.take 2 (.fork 3 (.fork 4 (.take 5 (.take 6 (.take 7 (.only 8 (.only 9 (.take 10 (.done))))))) 8 (.only 4 (.take 5 (.take 6 (.take 7 (.only 9 (.take 10 (.done)))))))) 8 (.only 3 (.only 4 (.take 5 (.take 6 (.take 7 (.only 9 (.take 10 (.done)))))))))))) (by kernel_rfl) (by kernel_rfl) (by kernel_rfl) (by kernel_rfl) (map_row (e_on (c0.drew) hx0 (e_lt hx0))) ?_
      simp only [Tree.T.map, List.getElem?_toArray, List.getElem?_cons_zero, List.getElem?_cons_succ]
      repeat (first | (refine Tree.take ?_ (by rfl) ?_ ?_; rotate_left; (· rintro w9 u0; go_simp; (try rw [if_neg (by omega)]); all_goals (with_reducible rfl)); simp only [Act.put, List.setIfInBounds_toArray, List.set_cons_zero, List.set_cons_succ]))
      have c9 := c0.drew
      refine Tree.fork (by rfl) (by rfl) ?_ ?_
      · refine Tree.wp_call 29 _ ?_ (HS.out _ (hb0.trans (c9.mono hb0.size))) ?_
        · go_simp
        rintro e9 w1 ⟨rfl, h1⟩
        have c1 := c9.trans (h1.mono c9.size)
        refine ⟨_, rfl, (map_row (e_on (c1) hx0 (e_lt hx0))), ?_⟩
        simp only [Act.put, List.setIfInBounds_toArray, List.set_cons_zero, List.set_cons_succ]
        repeat (first | (refine Tree.take ?_ (by rfl) ?_ ?_; rotate_left; (· rintro w9 u0; go_simp; (try rw [if_neg (by omega)]); all_goals (with_reducible rfl)); simp only [Act.put, List.setIfInBounds_toArray, List.set_cons_zero, List.set_cons_succ]))
        refine Tree.fork (by rfl) (by rfl) ?_ ?_
        · refine Tree.wp_call 38 _ ?_ (HP.out _ (hb0.trans (c1.mono hb0.size))) ?_
          · go_simp
          rintro e9 w2 ⟨rfl, h2⟩
          have c2 := c1.trans (h2.mono c1.size)
          refine ⟨_, rfl, (map_row (e_on (c2) hx0 (e_lt hx0))), ?_⟩
          simp only [Act.put, List.setIfInBounds_toArray, List.set_cons_zero, List.set_cons_succ]
          repeat (first | (refine Tree.take ?_ (by rfl) ?_ ?_; rotate_left; (· rintro w9 u0; go_simp; (try rw [if_neg (by omega)]); all_goals (with_reducible rfl)); simp only [Act.put, List.setIfInBounds_toArray, List.set_cons_zero, List.set_cons_succ]))
          refine Tree.only (by rfl) ?_
          have g3 := heap_alloc_new w2 (partRow none 0 0 0)
          have c3 := c2.alloc c2.size (partRow none 0 0 0)
          have q3 : w0.heap.size ≤ (w2).heap.size := c2.size
          generalize hG3 : (w2).heap.size = G at *
          refine Tree.wp_make (.pointer (some ⟨G, 0, none⟩)) ((w2).alloc (partRow none 0 0 0)) ?_ ⟨map_row (e_on (c3) hx0 (e_lt hx0)), ?_⟩
          · rw [← hG3]; go_simp
          clear hG3
          generalize (w2).alloc (partRow none 0 0 0) = v3 at *
          simp only [Act.put, List.setIfInBounds_toArray, List.set_cons_zero, List.set_cons_succ]
          repeat (first | (refine Tree.take ?_ (by rfl) ?_ ?_; rotate_left; (· rintro w9 u0; go_simp; (try rw [if_neg (by omega)]); all_goals (with_reducible rfl)); simp only [Act.put, List.setIfInBounds_toArray, List.set_cons_zero, List.set_cons_succ]))
          have c4 := below_setRow c3 q3 #[.slice (some x) n c, .int .i64 ST]
          have g4 := setRow_heap v3 G _ #[.slice (some x) n c, .int .i64 ST] _ _ g3
          refine Tree.only (by rfl) (wp_store_row 70 _ _ rfl G #[.slice (some x) n c, .int .i64 ST] (by rfl) (by rfl) 70 _ g3 part_info rfl (by simp [Value.oneCell']) ⟨map_row (e_on (c4) hx0 (e_lt hx0)), ?_⟩)
          simp only [Act.put]
          repeat (first | (refine Tree.take ?_ (by rfl) ?_ ?_; rotate_left; (· rintro w9 u0; go_simp; (try rw [if_neg (by omega)]); all_goals (with_reducible rfl)); simp only [Act.put, List.setIfInBounds_toArray, List.set_cons_zero, List.set_cons_succ]))
          refine Tree.ends ?_
          go_wp2_with fail
          go_meet
          exact ⟨G, rfl, rfl, q3, g4, c4⟩
        · have g2 := heap_alloc_new w1 (partRow none 0 0 0)
          have c2 := c1.alloc c1.size (partRow none 0 0 0)
          have q2 : w0.heap.size ≤ (w1).heap.size := c1.size
          generalize hG2 : (w1).heap.size = G at *
          refine Tree.wp_make (.pointer (some ⟨G, 0, none⟩)) ((w1).alloc (partRow none 0 0 0)) ?_ ⟨map_row (e_on (c2) hx0 (e_lt hx0)), ?_⟩
          · rw [← hG2]; go_simp
          clear hG2
          generalize (w1).alloc (partRow none 0 0 0) = v2 at *
          simp only [Act.put, List.setIfInBounds_toArray, List.set_cons_zero, List.set_cons_succ]
          repeat (first | (refine Tree.take ?_ (by rfl) ?_ ?_; rotate_left; (· rintro w9 u0; go_simp; (try rw [if_neg (by omega)]); all_goals (with_reducible rfl)); simp only [Act.put, List.setIfInBounds_toArray, List.set_cons_zero, List.set_cons_succ]))
          refine Tree.only (by rfl) ?_
          refine Tree.wp_call 38 _ ?_ (HP.out _ (hb0.trans (c2.mono hb0.size))) ?_
          · go_simp
          rintro e9 w3 ⟨rfl, h3⟩
          have c3 := c2.trans (h3.mono c2.size)
          have g3 := e_on h3 g2 (e_lt g2)
          refine ⟨_, rfl, (map_row (e_on (c3) hx0 (e_lt hx0))), ?_⟩
          simp only [Act.put, List.setIfInBounds_toArray, List.set_cons_zero, List.set_cons_succ]
          repeat (first | (refine Tree.take ?_ (by rfl) ?_ ?_; rotate_left; (· rintro w9 u0; go_simp; (try rw [if_neg (by omega)]); all_goals (with_reducible rfl)); simp only [Act.put, List.setIfInBounds_toArray, List.set_cons_zero, List.set_cons_succ]))
          have c4 := below_setRow c3 q2 #[.slice (some x) n c, .int .i64 ST]
          have g4 := setRow_heap w3 G _ #[.slice (some x) n c, .int .i64 ST] _ _ g3
          refine Tree.only (by rfl) (wp_store_row 70 _ _ rfl G #[.slice (some x) n c, .int .i64 ST] (by rfl) (by rfl) 70 _ g3 part_info rfl (by simp [Value.oneCell']) ⟨map_row (e_on (c4) hx0 (e_lt hx0)), ?_⟩)
          simp only [Act.put]
          repeat (first | (refine Tree.take ?_ (by rfl) ?_ ?_; rotate_left; (· rintro w9 u0; go_simp; (try rw [if_neg (by omega)]); all_goals (with_reducible rfl)); simp only [Act.put, List.setIfInBounds_toArray, List.set_cons_zero, List.set_cons_succ]))
          refine Tree.ends ?_
          go_wp2_with fail
          go_meet
          exact ⟨G, rfl, rfl, q2, g4, c4⟩
      · have g1 : (w0.drew.alloc (partRow none 0 0 0)).heap[w0.heap.size]? = some (partRow none 0 0 0) := heap_alloc_new w0.drew (partRow none 0 0 0)
        have c1 := c9.alloc c9.size (partRow none 0 0 0)
        have q1 : w0.heap.size ≤ w0.heap.size := Nat.le_refl _
        refine Tree.wp_make (.pointer (some ⟨w0.heap.size, 0, none⟩)) (w0.drew.alloc (partRow none 0 0 0)) ?_ ⟨map_row (e_on (c1) hx0 (e_lt hx0)), ?_⟩
        · go_simp
        generalize w0.drew.alloc (partRow none 0 0 0) = v1 at *
        simp only [Act.put, List.setIfInBounds_toArray, List.set_cons_zero, List.set_cons_succ]
        repeat (first | (refine Tree.take ?_ (by rfl) ?_ ?_; rotate_left; (· rintro w9 u0; go_simp; (try rw [if_neg (by omega)]); all_goals (with_reducible rfl)); simp only [Act.put, List.setIfInBounds_toArray, List.set_cons_zero, List.set_cons_succ]))
        refine Tree.only (by rfl) ?_
        refine Tree.wp_call 29 _ ?_ (HS.out _ (hb0.trans (c1.mono hb0.size))) ?_
        · go_simp
        rintro e9 w2 ⟨rfl, h2⟩
        have c2 := c1.trans (h2.mono c1.size)
        have g2 := e_on h2 g1 (e_lt g1)
        refine ⟨_, rfl, (map_row (e_on (c2) hx0 (e_lt hx0))), ?_⟩
        simp only [Act.put, List.setIfInBounds_toArray, List.set_cons_zero, List.set_cons_succ]
        repeat (first | (refine Tree.take ?_ (by rfl) ?_ ?_; rotate_left; (· rintro w9 u0; go_simp; (try rw [if_neg (by omega)]); all_goals (with_reducible rfl)); simp only [Act.put, List.setIfInBounds_toArray, List.set_cons_zero, List.set_cons_succ]))
        refine Tree.only (by rfl) ?_
        refine Tree.wp_call 38 _ ?_ (HP.out _ (hb0.trans (c2.mono hb0.size))) ?_
        · go_simp
        rintro e9 w3 ⟨rfl, h3⟩
        have c3 := c2.trans (h3.mono c2.size)
        have g3 := e_on h3 g2 (e_lt g2)
        refine ⟨_, rfl, (map_row (e_on (c3) hx0 (e_lt hx0))), ?_⟩
        simp only [Act.put, List.setIfInBounds_toArray, List.set_cons_zero, List.set_cons_succ]
        repeat (first | (refine Tree.take ?_ (by rfl) ?_ ?_; rotate_left; (· rintro w9 u0; go_simp; (try rw [if_neg (by omega)]); all_goals (with_reducible rfl)); simp only [Act.put, List.setIfInBounds_toArray, List.set_cons_zero, List.set_cons_succ]))
        have c4 := below_setRow c3 q1 #[.slice (some x) n c, .int .i64 ST]
        have g4 := setRow_heap w3 w0.heap.size _ #[.slice (some x) n c, .int .i64 ST] _ _ g3
        refine Tree.only (by rfl) (wp_store_row 70 _ _ rfl w0.heap.size #[.slice (some x) n c, .int .i64 ST] (by rfl) (by rfl) 70 _ g3 part_info rfl (by simp [Value.oneCell']) ⟨map_row (e_on (c4) hx0 (e_lt hx0)), ?_⟩)
        simp only [Act.put]
        repeat (first | (refine Tree.take ?_ (by rfl) ?_ ?_; rotate_left; (· rintro w9 u0; go_simp; (try rw [if_neg (by omega)]); all_goals (with_reducible rfl)); simp only [Act.put, List.setIfInBounds_toArray, List.set_cons_zero, List.set_cons_succ]))
        refine Tree.ends ?_
        go_wp2_with fail
        go_meet
        exact ⟨w0.heap.size, rfl, rfl, q1, g4, c4⟩
    case rest =>
      obtain ⟨g, rfl, rfl, hg, hgr, hc1⟩ := hcut
      have hr1 := e_on hc1 hr0 (e_lt hr0)
      have b1 := hb0.trans (hc1.mono hb0.size)
      rw [← hST] at hgr
      clear hST
      go_wp2_with (first
        | ((with_reducible refine Plan.load_lit 70 (.tmp 6) g ?_ hgr Try.underlying70 ?_ ?_ ?_); (· rfl); (· rfl); (· exact part_info); simp only [Act.put, List.setIfInBounds_toArray, List.set_cons_zero, List.set_cons_succ])
        | (go_at_call 40; ((with_reducible refine (HLI.out _ b1).mono ?_); rintro r9 w2 ⟨rfl, h2⟩; have b2 := b1.trans (h2.mono b1.size); have hr2 := e_on h2 hr1 (e_lt hr1)))
        | (go_at_call 42; ((with_reducible refine (HFI.out _ b2).mono ?_); rintro r9 w3 ⟨rfl, h3⟩; have b3 := b2.trans (h3.mono b2.size); have hr3 := e_on h3 hr2 (e_lt hr2)))
        | ((with_reducible refine Plan.store_lit 28 (.tmp 4) _ (w.heap.size + 1) ?_ hr3 ?_ ?_ ?_ ?_ ?_ ?_); rotate_left; (· rfl); (· rfl); (· exact entry_info); (· rfl); (· simp [Value.oneCell']); simp only [Act.put]))
      exact bodyPost_ret (Plan.results_cell_tmp (p := 4) (q := 5) rfl _ _ _ _ _ _ _ rfl (setRow_heap _ _ _ _ _ _ hr3) Try.underlying28 rfl entry_info) rfl ⟨e_v rfl, below_setRow b3 (show w.heap.size ≤ w.heap.size + 1 by omega) _⟩
end Go.Proofs.Ytljobnfilnbefaa.Ents

/- The walk of the program's Drop of a map. -/
namespace Go.Proofs.Ytljobnfilnbefaa.Ents
open Go.RowKit Plan EntMath
set_option maxHeartbeats 8000000 in
set_option maxRecDepth 20000 in
theorem mdrop_any (F : Nat → Prop) (Ls : List (List Ent)) (i cut : Int) (a : Option Addr) (n c : Nat) (w : World) (hl : MList w F a n c Ls) (hm : Near Ls) :
    Calls Try.prog 21 #[mapV a n c, .int .i64 i, .int .i64 cut] w (DropMPost w F (dropM Ls i cut) (goneM Ls i cut)) := by
  have hlen := hl.length
  have hA := ((Below.refl w.heap.size w).alloc (Nat.le_refl _) (mapRow a n c)).alloc (by simp) (mapRow none 0 0)
  have hr0 := heap_second w (mapRow a n c) (mapRow none 0 0)
  have hx0 := heap_first w (mapRow a n c) (mapRow none 0 0)
  have HP := Lib.hid (fun W (h : Below w.heap.size w W) => partOf_any _ Ls i a n c W (hl.same h))
  have HEND := Lib.hid (fun W (h : Below w.heap.size w W) (cs : Array Value) => (show MList (W.setRow (w.heap.size + 1) cs) (Plus F w.heap.size) a n c Ls from
    ((hl.cut.on (Same.below (w' := W) h)).on (Same.row (r := w.heap.size + 1) (fun h9 => by have := h9.2; omega) cs)).mono (fun b _ h => .inl h.1)))
  have hcases : (partB Ls i = false ∧ ¬ (validM Ls = true ∧ 0 ≤ i ∧ i < (Ls.length : Int))) ∨ (partB Ls i = true ∧ validM Ls = true ∧ 0 ≤ i ∧ i < (Ls.length : Int)) := by
    cases hg : partB Ls i
    · refine .inl ⟨rfl, fun h => ?_⟩
      unfold partB at hg
      rw [h.1, decide_eq_true h.2.1, decide_eq_true h.2.2] at hg
      cases hg
    · unfold partB at hg
      rw [Bool.and_eq_true, Bool.and_eq_true, decide_eq_true_eq, decide_eq_true_eq] at hg
      exact .inr ⟨rfl, hg.1.1, hg.1.2, hg.2⟩
  rcases hcases with ⟨hg, hv⟩ | ⟨hg, hva, hi0, hin⟩
  · obtain ⟨r1, r2⟩ := dropM_no (cut := cut) hv
    rw [r1, r2]
    rw [hg] at HP
    clear r1 r2 hg hv hl hm
    go_enter Try.func21, Try.ntmps21
    generalize hw0 : (w.alloc (mapRow a n c)).alloc (mapRow none 0 0) = w0 at *
    go_wp2_with (first
      | ((with_reducible refine Plan.load_lit 24 (.tmp 3) w.heap.size ?_ hx0 Try.underlying24 ?_ ?_ ?_); (· rfl); (· rfl); (· exact map_info); simp only [Act.put, List.setIfInBounds_toArray, List.set_cons_zero, List.set_cons_succ])
      | (go_at_call 38; ((with_reducible refine (HP.out _ hA).mono ?_); rintro r9 w1 ⟨rfl, h1⟩; have b1 := (hA.trans (h1.mono hA.size)); have q1 := b1.alloc b1.size (partRow a n c i); have hr1 := e_al (e_on h1 hr0 (e_lt hr0)) (partRow a n c i); have hx1 := e_al (e_on h1 hx0 (e_lt hx0)) (partRow a n c i); clear hx0))
      | ((with_reducible refine Plan.load_lit 24 (.tmp 3) w.heap.size ?_ hx1 Try.underlying24 ?_ ?_ ?_); (· rfl); (· rfl); (· exact map_info); simp only [Act.put, List.setIfInBounds_toArray, List.set_cons_zero, List.set_cons_succ])
      | ((with_reducible refine Plan.store_lit 24 (.tmp 6) _ (w.heap.size + 1) ?_ hr1 ?_ ?_ ?_ ?_ ?_ ?_); rotate_left; (· rfl); (· rfl); (· exact map_info); (· rfl); (· simp [Value.oneCell']); simp only [Act.put]))
    exact bodyPost_ret (Plan.results_cell_tmp (p := 6) (q := 7) rfl _ _ _ _ _ _ _ rfl (setRow_heap _ _ _ _ _ _ hr1) Try.underlying24 rfl map_info) rfl ⟨_, _, _, _, _, _, rfl, HEND.out _ q1 _, EList.nil _ _, below_setRow q1 (show w.heap.size ≤ w.heap.size + 1 by omega) _⟩
  · obtain ⟨k, rfl⟩ : ∃ k : Nat, i = (k : Int) := ⟨i.toNat, by omega⟩
    have hkn : k < n := by omega
    obtain ⟨x, L, b, m, kk, rfl, hL, hcc, hle⟩ := hl.at' k hkn
    obtain ⟨r1, r2⟩ := dropM_at (cut := cut) hva hL
    rw [r1, r2]
    rw [hg] at HP
    have hn8 := (validM_iff.1 hva).1.2
    have HPIN := Lib.hid (pinF hcc hle)
    have hmL := flat_each (hm hn8) L (List.mem_of_getElem? hL)
    rw [hle.length] at hmL
    have hxlt : x.block < w.heap.size := by
      have := World.block_lt_of_cell? w _ hcc
      rwa [ent_add_block] at this
    have HLI := Lib.hid (fun W (h : Below w.heap.size w W) => plist_any x n c k b m kk W hkn (Nat.lt_of_lt_of_le hxlt h.size) (HPIN.out W h).1)
    have HDR := Lib.hid (fun W (h : Below w.heap.size w W) => drop_any _ L cut b m kk W (HPIN.out W h).2 (by omega))
    unfold DropPost at HDR
    have HML := Lib.hid (fun W W' (h : Below w.heap.size w W) (h2 : Below W.heap.size W W') => (show MList W' (Plus (fun b => F b ∧ b < w.heap.size) W.heap.size) (some x) n c Ls from
      ((hl.cut.on (Same.below h)).on (Same.below h2)).mono fun _ _ h => .inl h))
    clear hva hl hcc hle hm hg r1 r2 hi0 hin hmL
    by_cases hg : goneL L cut = []
    · rw [if_pos hg, hg]
      have HG0 := Lib.hid (show (goneL L cut).length = 0 by rw [hg]; rfl)
      clear hg
      go_enter Try.func21, Try.ntmps21
      generalize hw0 : (w.alloc (mapRow (some x) n c)).alloc (mapRow none 0 0) = w0 at *
      go_wp2_with (first
        | ((with_reducible refine Plan.load_lit 24 (.tmp 3) w.heap.size ?_ hx0 Try.underlying24 ?_ ?_ ?_); (· rfl); (· rfl); (· exact map_info); simp only [Act.put, List.setIfInBounds_toArray, List.set_cons_zero, List.set_cons_succ])
        | (go_at_call 38; ((with_reducible refine (HP.out _ hA).mono ?_); rintro r9 w1 ⟨rfl, h1⟩; have b1 := (hA.trans (h1.mono hA.size)); have q1 := b1.alloc b1.size (partRow (some x) n c k); have hr1 := e_al (e_on h1 hr0 (e_lt hr0)) (partRow (some x) n c k); have hx1 := e_al (e_on h1 hx0 (e_lt hx0)) (partRow (some x) n c k); have hp1 := heap_alloc_new w1 (partRow (some x) n c k); clear hx0))
        | ((with_reducible refine Plan.load_lit 70 (.tmp 8) w1.heap.size ?_ hp1 Try.underlying70 ?_ ?_ ?_); (· rfl); (· rfl); (· exact part_info); simp only [Act.put, List.setIfInBounds_toArray, List.set_cons_zero, List.set_cons_succ])
        | (go_at_call 40; ((with_reducible refine (HLI.out _ q1).mono ?_); rintro r9 w2 ⟨rfl, h2⟩; have b2 := (q1.trans (h2.mono q1.size)); have hr2 := e_on h2 hr1 (e_lt hr1); have hx2 := e_on h2 hx1 (e_lt hx1); have hp2 := e_on h2 hp1 (e_lt hp1); clear hp1 hx1))
        | (go_at_call 39; ((with_reducible refine (HDR.out _ b2).mono ?_); rintro r9 w3 ⟨a2, m2, k2, a3, m3, k3, rfl, l2, l3, h3⟩; have hr3 := e_on h3 hr2 (e_lt hr2); have hx3 := e_on h3 hx2 (e_lt hx2); have b3 := b2.trans (h3.mono b2.size); have hm3 := l3.length; rw [HG0.out] at hm3; obtain rfl : m3 = 0 := hm3.symm; clear hx2))
        | ((with_reducible refine Plan.load_lit 24 (.tmp 3) w.heap.size ?_ hx3 Try.underlying24 ?_ ?_ ?_); (· rfl); (· rfl); (· exact map_info); simp only [Act.put, List.setIfInBounds_toArray, List.set_cons_zero, List.set_cons_succ])
        | ((with_reducible refine Plan.store_lit 24 (.tmp 6) _ (w.heap.size + 1) ?_ hr3 ?_ ?_ ?_ ?_ ?_ ?_); rotate_left; (· rfl); (· rfl); (· exact map_info); (· rfl); (· simp [Value.oneCell']); simp only [Act.put]))
      exact bodyPost_ret (Plan.results_cell_tmp (p := 6) (q := 7) rfl _ _ _ _ _ _ _ rfl (setRow_heap _ _ _ _ _ _ hr3) Try.underlying24 rfl map_info) rfl ⟨_, _, _, _, _, _, rfl, HEND.out _ b3 _, EList.nil _ _, below_setRow b3 (show w.heap.size ≤ w.heap.size + 1 by omega) _⟩
    · rw [if_neg hg]
      have HG1 := Lib.hid (gone_len hg)
      clear hg
      go_enter Try.func21, Try.ntmps21
      generalize hw0 : (w.alloc (mapRow (some x) n c)).alloc (mapRow none 0 0) = w0 at *
      go_wp2_with (first
        | ((with_reducible refine Plan.load_lit 24 (.tmp 3) w.heap.size ?_ hx0 Try.underlying24 ?_ ?_ ?_); (· rfl); (· rfl); (· exact map_info); simp only [Act.put, List.setIfInBounds_toArray, List.set_cons_zero, List.set_cons_succ])
        | (go_at_call 38; ((with_reducible refine (HP.out _ hA).mono ?_); rintro r9 w1 ⟨rfl, h1⟩; have b1 := (hA.trans (h1.mono hA.size)); have q1 := b1.alloc b1.size (partRow (some x) n c k); have hr1 := e_al (e_on h1 hr0 (e_lt hr0)) (partRow (some x) n c k); have hx1 := e_al (e_on h1 hx0 (e_lt hx0)) (partRow (some x) n c k); have hp1 := heap_alloc_new w1 (partRow (some x) n c k); clear hx0))
        | ((with_reducible refine Plan.load_lit 70 (.tmp 8) w1.heap.size ?_ hp1 Try.underlying70 ?_ ?_ ?_); (· rfl); (· rfl); (· exact part_info); simp only [Act.put, List.setIfInBounds_toArray, List.set_cons_zero, List.set_cons_succ])
        | (go_at_call 40; ((with_reducible refine (HLI.out _ q1).mono ?_); rintro r9 w2 ⟨rfl, h2⟩; have b2 := (q1.trans (h2.mono q1.size)); have hr2 := e_on h2 hr1 (e_lt hr1); have hx2 := e_on h2 hx1 (e_lt hx1); have hp2 := e_on h2 hp1 (e_lt hp1); clear hp1 hx1))
        | (go_at_call 39; ((with_reducible refine (HDR.out _ b2).mono ?_); rintro r9 w3 ⟨a2, m2, k2, a3, m3, k3, rfl, l2, l3, h3⟩; have hr3 := e_on h3 hr2 (e_lt hr2); have hp3 := e_on h3 hp2 (e_lt hp2); have b3 := b2.trans (h3.mono b2.size); have hm3 := l3.length; obtain ⟨hm3a, hm3b⟩ := HG1.out m3 hm3; have HW := Lib.hid (pwith_any _ Ls (some x) n c k (stayL L cut) a2 m2 k2 w3 (HML.out _ _ b2 h3) hkn l2 (by omega)); clear hp2))
        | ((with_reducible refine Plan.load_lit 70 (.tmp 8) w1.heap.size ?_ hp3 Try.underlying70 ?_ ?_ ?_); (· rfl); (· rfl); (· exact part_info); simp only [Act.put, List.setIfInBounds_toArray, List.set_cons_zero, List.set_cons_succ])
        | (go_at_call 41; ((with_reducible refine HW.out.mono ?_); rintro r9 w4 ⟨g4, c4, rfl, l4, h4⟩; have hr4 := e_on h4 hr3 (e_lt hr3); have b4 := b3.trans (h4.mono b3.size); have hs2 := b2.size; have hs3 := h3.size; have hs0 := e_lt hr2; have l5 := l3.on (Same.below h4)))
        | ((with_reducible refine Plan.store_lit 24 (.tmp 6) _ (w.heap.size + 1) ?_ hr4 ?_ ?_ ?_ ?_ ?_ ?_); rotate_left; (· rfl); (· rfl); (· exact map_info); (· rfl); (· simp [Value.oneCell']); simp only [Act.put]))
      have hN : ∀ b, Plus (Plus (fun b => F b ∧ b < w.heap.size) w2.heap.size) w3.heap.size b → b ≠ w.heap.size + 1 ∧ Plus F w.heap.size b := fun b h => by
        rcases h with (h | h) | h
        · exact ⟨by have := h.2; omega, .inl h.1⟩
        · exact ⟨by omega, .inr (by omega)⟩
        · exact ⟨by omega, .inr (by omega)⟩
      have M9 := (l4.on (Same.row (r := w.heap.size + 1) (fun h9 => (hN _ h9).1 rfl) #[.slice (some ⟨g4, 0, none⟩) n c4])).mono (G := Plus F w.heap.size) (fun b _ h9 => (hN b h9).2)
      have E9 := (l5.on (Same.row (r := w.heap.size + 1) (fun h9 => (hN _ (.inl h9)).1 rfl) #[.slice (some ⟨g4, 0, none⟩) n c4])).mono (G := Plus F w.heap.size) (fun b _ h9 => (hN b (.inl h9)).2)
      exact bodyPost_ret (Plan.results_cell_tmp (p := 6) (q := 7) rfl _ _ _ _ _ _ _ rfl (setRow_heap _ _ _ _ _ _ hr4) Try.underlying24 rfl map_info) rfl ⟨_, _, _, _, _, _, rfl, M9, E9, below_setRow b4 (show w.heap.size ≤ w.heap.size + 1 by omega) _⟩
end Go.Proofs.Ytljobnfilnbefaa.Ents

/- The walk of the program's Relocate of a map. -/
namespace Go.Proofs.Ytljobnfilnbefaa.Ents
open Go.RowKit Plan EntMath
theorem part_no {Ls : List (List Ent)} {b : Int} (h : (validM Ls && decide (0 ≤ b)) = false) : ¬ (validM Ls = true ∧ 0 ≤ b) := fun h9 => by
  rw [h9.1, decide_eq_true h9.2] at h
  cases h
theorem part_yes {Ls : List (List Ent)} {b : Int} (h : (validM Ls && decide (0 ≤ b)) = true) : validM Ls = true ∧ 0 ≤ b := by
  rw [Bool.and_eq_true, decide_eq_true_eq] at h
  exact h
set_option maxHeartbeats 8000000 in
set_option maxRecDepth 20000 in
theorem mrelocate_any (F : Nat → Prop) (Ls : List (List Ent)) (b v fz fo tz tq m : Int) (a : Option Addr) (n c : Nat) (w : World) (hl : MList w F a n c Ls) (hm : Near Ls) :
    Calls Try.prog 23 #[mapV a n c, .int .i64 b, .int .i64 v, .agg #[.int .i64 fz, .int .i64 fo], .agg #[.int .i64 tz, .int .i64 tq], .int .i64 m] w (RelMPost w F (relocM Ls b v fz fo tz tq m) (movesM Ls b v fz fo tz tq m)) := by
  have hlen := hl.length
  have hb0 : Below w.heap.size w ((((w.alloc (mapRow a n c)).alloc (placeRow fz fo)).alloc (placeRow tz tq)).alloc (mapRow none 0 0)) := ((((Below.refl w.heap.size w).alloc (Nat.le_refl _) _).alloc (by simp) _).alloc (by simp; omega) _).alloc (by simp; omega) _
  obtain ⟨hx0, hp0, hq0, hr0⟩ := heap4 w (mapRow a n c) (placeRow fz fo) (placeRow tz tq) (mapRow none 0 0)
  have HS := Lib.hid (fun W (h : Below w.heap.size w W) => stripe_any _ Ls b a n c W (hl.same h))
  have HP := Lib.hid (fun W (h : Below w.heap.size w W) => partOf_any _ Ls (stripe Ls b) a n c W (hl.same h))
  rw [part_stripe] at HP
  have HEND := Lib.hid (fun W (h : Below w.heap.size w W) (cs : Array Value) => (show MList (W.setRow (w.heap.size + 3) cs) (Plus F w.heap.size) a n c Ls from
    ((hl.cut.on (Same.below (w' := W) h)).on (Same.row (r := w.heap.size + 3) (fun h9 => by have := h9.2; omega) cs)).mono (fun b _ h => .inl h.1)))
  cases hg : (validM Ls && decide (0 ≤ b))
  · obtain ⟨r1, r2⟩ := relM_no (v := v) (fz := fz) (fo := fo) (tz := tz) («to» := tq) (m := m) (part_no hg)
    rw [r1, r2]
    clear r1 r2
    generalize hST : stripe Ls b = ST at *
    rw [hg] at HP
    have c0 := Below.refl ((((w.alloc (mapRow a n c)).alloc (placeRow fz fo)).alloc (placeRow tz tq)).alloc (mapRow none 0 0)).heap.size ((((w.alloc (mapRow a n c)).alloc (placeRow fz fo)).alloc (placeRow tz tq)).alloc (mapRow none 0 0))
    clear hST hg hl hm
    go_enter Try.func23, Try.ntmps23
    generalize hw0 : (((w.alloc (mapRow a n c)).alloc (placeRow fz fo)).alloc (placeRow tz tq)).alloc (mapRow none 0 0) = w0 at *
    go_upto_region 1 with fail
    go_cut [14, 15] (fun s6 s7 wx => ∃ g : Nat, s6 = .pointer (some ⟨g, 0, none⟩) ∧ s7 = .bool false ∧ w0.heap.size ≤ g ∧ wx.heap[g]? = some (partRow a n c ST) ∧ Below w0.heap.size w0 wx)
    case first =>
      refine Tree.start (fun W => W.cell? ⟨w.heap.size, 0, none⟩ = some (.slice a n c)) (.take 0 (.take 1 (.take 2 (.fork 3 (.fork 4 (.take 5 (.take 6 (.take 7 (.only 8 (.only 9 (.take 10 (.done))))))) 8 (.only 4 (.take 5 (.take 6 (.take 7 (.only 9 (.take 10 (.done)))))))) 8 (.only 3 (.only 4 (.take 5 (.take 6 (.take 7 (.only 9 (.take 10 (.done)))))))))))) (by kernel_rfl) (by kernel_rfl) (by kernel_rfl) (by kernel_rfl) (map_row (e_on (c0.drew) hx0 (e_lt hx0))) ?_
      simp only [Tree.T.map, List.getElem?_toArray, List.getElem?_cons_zero, List.getElem?_cons_succ]
      repeat (first | (refine Tree.take ?_ (by rfl) ?_ ?_; rotate_left; (· rintro w9 u0; go_simp; (try rw [if_neg (by omega)]); all_goals (with_reducible rfl)); simp only [Act.put, List.setIfInBounds_toArray, List.set_cons_zero, List.set_cons_succ]))
      have c9 := c0.drew
      refine Tree.fork (by rfl) (by rfl) ?_ ?_
      · refine Tree.wp_call 29 _ ?_ (HS.out _ (hb0.trans (c9.mono hb0.size))) ?_
        · go_simp
        rintro e9 w1 ⟨rfl, h1⟩
        have c1 := c9.trans (h1.mono c9.size)
        refine ⟨_, rfl, (map_row (e_on (c1) hx0 (e_lt hx0))), ?_⟩
        simp only [Act.put, List.setIfInBounds_toArray, List.set_cons_zero, List.set_cons_succ]
        repeat (first | (refine Tree.take ?_ (by rfl) ?_ ?_; rotate_left; (· rintro w9 u0; go_simp; (try rw [if_neg (by omega)]); all_goals (with_reducible rfl)); simp only [Act.put, List.setIfInBounds_toArray, List.set_cons_zero, List.set_cons_succ]))
        refine Tree.fork (by rfl) (by rfl) ?_ ?_
        · refine Tree.wp_call 38 _ ?_ (HP.out _ (hb0.trans (c1.mono hb0.size))) ?_
          · go_simp
          rintro e9 w2 ⟨rfl, h2⟩
          have c2 := c1.trans (h2.mono c1.size)
          refine ⟨_, rfl, (map_row (e_on (c2) hx0 (e_lt hx0))), ?_⟩
          simp only [Act.put, List.setIfInBounds_toArray, List.set_cons_zero, List.set_cons_succ]
          repeat (first | (refine Tree.take ?_ (by rfl) ?_ ?_; rotate_left; (· rintro w9 u0; go_simp; (try rw [if_neg (by omega)]); all_goals (with_reducible rfl)); simp only [Act.put, List.setIfInBounds_toArray, List.set_cons_zero, List.set_cons_succ]))
          refine Tree.only (by rfl) ?_
          have g3 := heap_alloc_new w2 (partRow none 0 0 0)
          have c3 := c2.alloc c2.size (partRow none 0 0 0)
          have q3 : w0.heap.size ≤ (w2).heap.size := c2.size
          generalize hG3 : (w2).heap.size = G at *
          refine Tree.wp_make (.pointer (some ⟨G, 0, none⟩)) ((w2).alloc (partRow none 0 0 0)) ?_ ⟨map_row (e_on (c3) hx0 (e_lt hx0)), ?_⟩
          · rw [← hG3]; go_simp
          clear hG3
          generalize (w2).alloc (partRow none 0 0 0) = v3 at *
          simp only [Act.put, List.setIfInBounds_toArray, List.set_cons_zero, List.set_cons_succ]
          repeat (first | (refine Tree.take ?_ (by rfl) ?_ ?_; rotate_left; (· rintro w9 u0; go_simp; (try rw [if_neg (by omega)]); all_goals (with_reducible rfl)); simp only [Act.put, List.setIfInBounds_toArray, List.set_cons_zero, List.set_cons_succ]))
          have c4 := below_setRow c3 q3 #[.slice a n c, .int .i64 ST]
          have g4 := setRow_heap v3 G _ #[.slice a n c, .int .i64 ST] _ _ g3
          refine Tree.only (by rfl) (wp_store_row 70 _ _ rfl G #[.slice a n c, .int .i64 ST] (by rfl) (by rfl) 70 _ g3 part_info rfl (by simp [Value.oneCell']) ⟨map_row (e_on (c4) hx0 (e_lt hx0)), ?_⟩)
          simp only [Act.put]
          repeat (first | (refine Tree.take ?_ (by rfl) ?_ ?_; rotate_left; (· rintro w9 u0; go_simp; (try rw [if_neg (by omega)]); all_goals (with_reducible rfl)); simp only [Act.put, List.setIfInBounds_toArray, List.set_cons_zero, List.set_cons_succ]))
          refine Tree.ends ?_
          go_wp2_with fail
          go_meet
          exact ⟨G, rfl, rfl, q3, g4, c4⟩
        · have g2 := heap_alloc_new w1 (partRow none 0 0 0)
          have c2 := c1.alloc c1.size (partRow none 0 0 0)
          have q2 : w0.heap.size ≤ (w1).heap.size := c1.size
          generalize hG2 : (w1).heap.size = G at *
          refine Tree.wp_make (.pointer (some ⟨G, 0, none⟩)) ((w1).alloc (partRow none 0 0 0)) ?_ ⟨map_row (e_on (c2) hx0 (e_lt hx0)), ?_⟩
          · rw [← hG2]; go_simp
          clear hG2
          generalize (w1).alloc (partRow none 0 0 0) = v2 at *
          simp only [Act.put, List.setIfInBounds_toArray, List.set_cons_zero, List.set_cons_succ]
          repeat (first | (refine Tree.take ?_ (by rfl) ?_ ?_; rotate_left; (· rintro w9 u0; go_simp; (try rw [if_neg (by omega)]); all_goals (with_reducible rfl)); simp only [Act.put, List.setIfInBounds_toArray, List.set_cons_zero, List.set_cons_succ]))
          refine Tree.only (by rfl) ?_
          refine Tree.wp_call 38 _ ?_ (HP.out _ (hb0.trans (c2.mono hb0.size))) ?_
          · go_simp
          rintro e9 w3 ⟨rfl, h3⟩
          have c3 := c2.trans (h3.mono c2.size)
          have g3 := e_on h3 g2 (e_lt g2)
          refine ⟨_, rfl, (map_row (e_on (c3) hx0 (e_lt hx0))), ?_⟩
          simp only [Act.put, List.setIfInBounds_toArray, List.set_cons_zero, List.set_cons_succ]
          repeat (first | (refine Tree.take ?_ (by rfl) ?_ ?_; rotate_left; (· rintro w9 u0; go_simp; (try rw [if_neg (by omega)]); all_goals (with_reducible rfl)); simp only [Act.put, List.setIfInBounds_toArray, List.set_cons_zero, List.set_cons_succ]))
          have c4 := below_setRow c3 q2 #[.slice a n c, .int .i64 ST]
          have g4 := setRow_heap w3 G _ #[.slice a n c, .int .i64 ST] _ _ g3
          refine Tree.only (by rfl) (wp_store_row 70 _ _ rfl G #[.slice a n c, .int .i64 ST] (by rfl) (by rfl) 70 _ g3 part_info rfl (by simp [Value.oneCell']) ⟨map_row (e_on (c4) hx0 (e_lt hx0)), ?_⟩)
          simp only [Act.put]
          repeat (first | (refine Tree.take ?_ (by rfl) ?_ ?_; rotate_left; (· rintro w9 u0; go_simp; (try rw [if_neg (by omega)]); all_goals (with_reducible rfl)); simp only [Act.put, List.setIfInBounds_toArray, List.set_cons_zero, List.set_cons_succ]))
          refine Tree.ends ?_
          go_wp2_with fail
          go_meet
          exact ⟨G, rfl, rfl, q2, g4, c4⟩
      · have g1 : (w0.drew.alloc (partRow none 0 0 0)).heap[w0.heap.size]? = some (partRow none 0 0 0) := heap_alloc_new w0.drew (partRow none 0 0 0)
        have c1 := c9.alloc c9.size (partRow none 0 0 0)
        have q1 : w0.heap.size ≤ w0.heap.size := Nat.le_refl _
        refine Tree.wp_make (.pointer (some ⟨w0.heap.size, 0, none⟩)) (w0.drew.alloc (partRow none 0 0 0)) ?_ ⟨map_row (e_on (c1) hx0 (e_lt hx0)), ?_⟩
        · go_simp
        generalize w0.drew.alloc (partRow none 0 0 0) = v1 at *
        simp only [Act.put, List.setIfInBounds_toArray, List.set_cons_zero, List.set_cons_succ]
        repeat (first | (refine Tree.take ?_ (by rfl) ?_ ?_; rotate_left; (· rintro w9 u0; go_simp; (try rw [if_neg (by omega)]); all_goals (with_reducible rfl)); simp only [Act.put, List.setIfInBounds_toArray, List.set_cons_zero, List.set_cons_succ]))
        refine Tree.only (by rfl) ?_
        refine Tree.wp_call 29 _ ?_ (HS.out _ (hb0.trans (c1.mono hb0.size))) ?_
        · go_simp
        rintro e9 w2 ⟨rfl, h2⟩
        have c2 := c1.trans (h2.mono c1.size)
        have g2 := e_on h2 g1 (e_lt g1)
        refine ⟨_, rfl, (map_row (e_on (c2) hx0 (e_lt hx0))), ?_⟩
        simp only [Act.put, List.setIfInBounds_toArray, List.set_cons_zero, List.set_cons_succ]
        repeat (first | (refine Tree.take ?_ (by rfl) ?_ ?_; rotate_left; (· rintro w9 u0; go_simp; (try rw [if_neg (by omega)]); all_goals (with_reducible rfl)); simp only [Act.put, List.setIfInBounds_toArray, List.set_cons_zero, List.set_cons_succ]))
        refine Tree.only (by rfl) ?_
        refine Tree.wp_call 38 _ ?_ (HP.out _ (hb0.trans (c2.mono hb0.size))) ?_
        · go_simp
        rintro e9 w3 ⟨rfl, h3⟩
        have c3 := c2.trans (h3.mono c2.size)
        have g3 := e_on h3 g2 (e_lt g2)
        refine ⟨_, rfl, (map_row (e_on (c3) hx0 (e_lt hx0))), ?_⟩
        simp only [Act.put, List.setIfInBounds_toArray, List.set_cons_zero, List.set_cons_succ]
        repeat (first | (refine Tree.take ?_ (by rfl) ?_ ?_; rotate_left; (· rintro w9 u0; go_simp; (try rw [if_neg (by omega)]); all_goals (with_reducible rfl)); simp only [Act.put, List.setIfInBounds_toArray, List.set_cons_zero, List.set_cons_succ]))
        have c4 := below_setRow c3 q1 #[.slice a n c, .int .i64 ST]
        have g4 := setRow_heap w3 w0.heap.size _ #[.slice a n c, .int .i64 ST] _ _ g3
        refine Tree.only (by rfl) (wp_store_row 70 _ _ rfl w0.heap.size #[.slice a n c, .int .i64 ST] (by rfl) (by rfl) 70 _ g3 part_info rfl (by simp [Value.oneCell']) ⟨map_row (e_on (c4) hx0 (e_lt hx0)), ?_⟩)
        simp only [Act.put]
        repeat (first | (refine Tree.take ?_ (by rfl) ?_ ?_; rotate_left; (· rintro w9 u0; go_simp; (try rw [if_neg (by omega)]); all_goals (with_reducible rfl)); simp only [Act.put, List.setIfInBounds_toArray, List.set_cons_zero, List.set_cons_succ]))
        refine Tree.ends ?_
        go_wp2_with fail
        go_meet
        exact ⟨w0.heap.size, rfl, rfl, q1, g4, c4⟩
    case rest =>
      obtain ⟨g, rfl, rfl, hg, hgr, hc1⟩ := hcut
      have hr1 := e_on hc1 hr0 (e_lt hr0)
      have hx1 := e_on hc1 hx0 (e_lt hx0)
      have b1 := hb0.trans (hc1.mono hb0.size)
      go_wp2_with (first
        | ((with_reducible refine Plan.load_lit 24 (.tmp 6) w.heap.size ?_ hx1 Try.underlying24 ?_ ?_ ?_); (· rfl); (· rfl); (· exact map_info); simp only [Act.put, List.setIfInBounds_toArray, List.set_cons_zero, List.set_cons_succ])
        | ((with_reducible refine Plan.store_lit 24 (.tmp 12) _ (w.heap.size + 3) ?_ hr1 ?_ ?_ ?_ ?_ ?_ ?_); rotate_left; (· rfl); (· rfl); (· exact map_info); (· rfl); (· simp [Value.oneCell']); simp only [Act.put]))
      exact bodyPost_ret (Plan.results_cell_tmp (p := 12) (q := 13) rfl _ _ _ _ _ _ _ rfl (setRow_heap _ _ _ _ _ _ hr1) Try.underlying24 rfl map_info) rfl ⟨_, _, _, rfl, HEND.out _ b1 _, below_setRow b1 (show w.heap.size ≤ w.heap.size + 3 by omega) _⟩
  · obtain ⟨hva, h0⟩ := part_yes hg
    obtain ⟨r1, r2⟩ := relM_at (v := v) (fz := fz) (fo := fo) (tz := tz) («to» := tq) (m := m) hva h0
    rw [r2, r1]
    clear r1 r2
    have hst := st_lt hva b
    rw [hlen] at hst
    have hat := shard_at hva b
    obtain ⟨x, L, b', m', kk, rfl, hL, hcc, hle⟩ := hl.at' (st Ls b) hst
    rw [hat] at hL
    obtain rfl := Option.some.inj hL
    have hn8 := (validM_iff.1 hva).1.2
    have hme := flat_each (hm hn8) _ (List.mem_of_getElem? hat)
    rw [hle.length] at hme
    have HPIN := Lib.hid (pinF hcc hle)
    have hxlt : x.block < w.heap.size := by
      have := World.block_lt_of_cell? w _ hcc
      rwa [ent_add_block] at this
    have HLI := Lib.hid (fun W (h : Below w.heap.size w W) => plist_any x n c (st Ls b) b' m' kk W hst (Nat.lt_of_lt_of_le hxlt h.size) (HPIN.out W h).1)
    have HRE := Lib.hid (fun W (h : Below w.heap.size w W) => relocate_any _ (shardOf Ls b) b v fz fo tz tq m b' m' kk W (HPIN.out W h).2 (by omega))
    have HML := Lib.hid (fun W W' (h : Below w.heap.size w W) (h2 : Below W.heap.size W W') => (show MList W' (Plus (fun b => F b ∧ b < w.heap.size) W.heap.size) (some x) n c Ls from
      ((hl.cut.on (Same.below h)).on (Same.below h2)).mono fun _ _ h => .inl h))
    rw [stripe_eq hva h0] at HS HP
    unfold RelPost at HRE
    generalize moves (shardOf Ls b) b v fz fo tz tq m = MV at *
    generalize relocL (shardOf Ls b) b v fz fo tz tq m = RL at *
    have hn1000 : n ≤ 1000 := by omega
    clear hva h0 hat hcc hle hme hl hm hn8
    generalize hSt : st Ls b = k at *
    clear hSt
    have HT := Lib.hid (fun (h : MV = true) => (if_pos h : (if MV = true then Ls.set k RL else Ls) = Ls.set k RL))
    have HF := Lib.hid (fun (h : MV = false) => (if_neg (by rw [h]; decide) : (if MV = true then Ls.set k RL else Ls) = Ls))
    generalize (if MV = true then Ls.set k RL else Ls) = RS at *
    generalize hST : (k : Int) = ST at HS HP
    rw [hg] at HP
    have c0 := Below.refl ((((w.alloc (mapRow (some x) n c)).alloc (placeRow fz fo)).alloc (placeRow tz tq)).alloc (mapRow none 0 0)).heap.size ((((w.alloc (mapRow (some x) n c)).alloc (placeRow fz fo)).alloc (placeRow tz tq)).alloc (mapRow none 0 0))
    clear hg
    go_enter Try.func23, Try.ntmps23
    generalize hw0 : (((w.alloc (mapRow (some x) n c)).alloc (placeRow fz fo)).alloc (placeRow tz tq)).alloc (mapRow none 0 0) = w0 at *
    go_upto_region 1 with fail
    go_cut [14, 15] (fun s6 s7 wx => ∃ g : Nat, s6 = .pointer (some ⟨g, 0, none⟩) ∧ s7 = .bool true ∧ w0.heap.size ≤ g ∧ wx.heap[g]? = some (partRow (some x) n c ST) ∧ Below w0.heap.size w0 wx)
    case first =>
      refine Tree.start (fun W => W.cell? ⟨w.heap.size, 0, none⟩ = some (.slice (some x) n c)) (.take 0 (.take 1 (.take 2 (.fork 3 (.fork 4 (.take 5 (.take 6 (.take 7 (.only 8 (.only 9 (.take 10 (.done))))))) 8 (.only 4 (.take 5 (.take 6 (.take 7 (.only 9 (.take 10 (.done)))))))) 8 (.only 3 (.only 4 (.take 5 (.take 6 (.take 7 (.only 9 (.take 10 (.done)))))))))))) (by kernel_rfl) (by kernel_rfl) (by kernel_rfl) (by kernel_rfl) (map_row (e_on (c0.drew) hx0 (e_lt hx0))) ?_
      simp only [Tree.T.map, List.getElem?_toArray, List.getElem?_cons_zero, List.getElem?_cons_succ]
      repeat (first | (refine Tree.take ?_ (by rfl) ?_ ?_; rotate_left; (· rintro w9 u0; go_simp; (try rw [if_neg (by omega)]); all_goals (with_reducible rfl)); simp only [Act.put, List.setIfInBounds_toArray, List.set_cons_zero, List.set_cons_succ]))
      have c9 := c0.drew
      refine Tree.fork (by rfl) (by rfl) ?_ ?_
      · refine Tree.wp_call 29 _ ?_ (HS.out _ (hb0.trans (c9.mono hb0.size))) ?_
        · go_simp
        rintro e9 w1 ⟨rfl, h1⟩
        have c1 := c9.trans (h1.mono c9.size)
        refine ⟨_, rfl, (map_row (e_on (c1) hx0 (e_lt hx0))), ?_⟩
        simp only [Act.put, List.setIfInBounds_toArray, List.set_cons_zero, List.set_cons_succ]
        repeat (first | (refine Tree.take ?_ (by rfl) ?_ ?_; rotate_left; (· rintro w9 u0; go_simp; (try rw [if_neg (by omega)]); all_goals (with_reducible rfl)); simp only [Act.put, List.setIfInBounds_toArray, List.set_cons_zero, List.set_cons_succ]))
        refine Tree.fork (by rfl) (by rfl) ?_ ?_
        · refine Tree.wp_call 38 _ ?_ (HP.out _ (hb0.trans (c1.mono hb0.size))) ?_
          · go_simp
          rintro e9 w2 ⟨rfl, h2⟩
          have c2 := c1.trans (h2.mono c1.size)
          refine ⟨_, rfl, (map_row (e_on (c2) hx0 (e_lt hx0))), ?_⟩
          simp only [Act.put, List.setIfInBounds_toArray, List.set_cons_zero, List.set_cons_succ]
          repeat (first | (refine Tree.take ?_ (by rfl) ?_ ?_; rotate_left; (· rintro w9 u0; go_simp; (try rw [if_neg (by omega)]); all_goals (with_reducible rfl)); simp only [Act.put, List.setIfInBounds_toArray, List.set_cons_zero, List.set_cons_succ]))
          refine Tree.only (by rfl) ?_
          have g3 := heap_alloc_new w2 (partRow none 0 0 0)
          have c3 := c2.alloc c2.size (partRow none 0 0 0)
          have q3 : w0.heap.size ≤ (w2).heap.size := c2.size
          generalize hG3 : (w2).heap.size = G at *
          refine Tree.wp_make (.pointer (some ⟨G, 0, none⟩)) ((w2).alloc (partRow none 0 0 0)) ?_ ⟨map_row (e_on (c3) hx0 (e_lt hx0)), ?_⟩
          · rw [← hG3]; go_simp
          clear hG3
          generalize (w2).alloc (partRow none 0 0 0) = v3 at *
          simp only [Act.put, List.setIfInBounds_toArray, List.set_cons_zero, List.set_cons_succ]
          repeat (first | (refine Tree.take ?_ (by rfl) ?_ ?_; rotate_left; (· rintro w9 u0; go_simp; (try rw [if_neg (by omega)]); all_goals (with_reducible rfl)); simp only [Act.put, List.setIfInBounds_toArray, List.set_cons_zero, List.set_cons_succ]))
          have c4 := below_setRow c3 q3 #[.slice (some x) n c, .int .i64 ST]
          have g4 := setRow_heap v3 G _ #[.slice (some x) n c, .int .i64 ST] _ _ g3
          refine Tree.only (by rfl) (wp_store_row 70 _ _ rfl G #[.slice (some x) n c, .int .i64 ST] (by rfl) (by rfl) 70 _ g3 part_info rfl (by simp [Value.oneCell']) ⟨map_row (e_on (c4) hx0 (e_lt hx0)), ?_⟩)
          simp only [Act.put]
          repeat (first | (refine Tree.take ?_ (by rfl) ?_ ?_; rotate_left; (· rintro w9 u0; go_simp; (try rw [if_neg (by omega)]); all_goals (with_reducible rfl)); simp only [Act.put, List.setIfInBounds_toArray, List.set_cons_zero, List.set_cons_succ]))
          refine Tree.ends ?_
          go_wp2_with fail
          go_meet
          exact ⟨G, rfl, rfl, q3, g4, c4⟩
        · have g2 := heap_alloc_new w1 (partRow none 0 0 0)
          have c2 := c1.alloc c1.size (partRow none 0 0 0)
          have q2 : w0.heap.size ≤ (w1).heap.size := c1.size
          generalize hG2 : (w1).heap.size = G at *
          refine Tree.wp_make (.pointer (some ⟨G, 0, none⟩)) ((w1).alloc (partRow none 0 0 0)) ?_ ⟨map_row (e_on (c2) hx0 (e_lt hx0)), ?_⟩
          · rw [← hG2]; go_simp
          clear hG2
          generalize (w1).alloc (partRow none 0 0 0) = v2 at *
          simp only [Act.put, List.setIfInBounds_toArray, List.set_cons_zero, List.set_cons_succ]
          repeat (first | (refine Tree.take ?_ (by rfl) ?_ ?_; rotate_left; (· rintro w9 u0; go_simp; (try rw [if_neg (by omega)]); all_goals (with_reducible rfl)); simp only [Act.put, List.setIfInBounds_toArray, List.set_cons_zero, List.set_cons_succ]))
          refine Tree.only (by rfl) ?_
          refine Tree.wp_call 38 _ ?_ (HP.out _ (hb0.trans (c2.mono hb0.size))) ?_
          · go_simp
          rintro e9 w3 ⟨rfl, h3⟩
          have c3 := c2.trans (h3.mono c2.size)
          have g3 := e_on h3 g2 (e_lt g2)
          refine ⟨_, rfl, (map_row (e_on (c3) hx0 (e_lt hx0))), ?_⟩
          simp only [Act.put, List.setIfInBounds_toArray, List.set_cons_zero, List.set_cons_succ]
          repeat (first | (refine Tree.take ?_ (by rfl) ?_ ?_; rotate_left; (· rintro w9 u0; go_simp; (try rw [if_neg (by omega)]); all_goals (with_reducible rfl)); simp only [Act.put, List.setIfInBounds_toArray, List.set_cons_zero, List.set_cons_succ]))
          have c4 := below_setRow c3 q2 #[.slice (some x) n c, .int .i64 ST]
          have g4 := setRow_heap w3 G _ #[.slice (some x) n c, .int .i64 ST] _ _ g3
          refine Tree.only (by rfl) (wp_store_row 70 _ _ rfl G #[.slice (some x) n c, .int .i64 ST] (by rfl) (by rfl) 70 _ g3 part_info rfl (by simp [Value.oneCell']) ⟨map_row (e_on (c4) hx0 (e_lt hx0)), ?_⟩)
          simp only [Act.put]
          repeat (first | (refine Tree.take ?_ (by rfl) ?_ ?_; rotate_left; (· rintro w9 u0; go_simp; (try rw [if_neg (by omega)]); all_goals (with_reducible rfl)); simp only [Act.put, List.setIfInBounds_toArray, List.set_cons_zero, List.set_cons_succ]))
          refine Tree.ends ?_
          go_wp2_with fail
          go_meet
          exact ⟨G, rfl, rfl, q2, g4, c4⟩
      · have g1 : (w0.drew.alloc (partRow none 0 0 0)).heap[w0.heap.size]? = some (partRow none 0 0 0) := heap_alloc_new w0.drew (partRow none 0 0 0)
        have c1 := c9.alloc c9.size (partRow none 0 0 0)
        have q1 : w0.heap.size ≤ w0.heap.size := Nat.le_refl _
        refine Tree.wp_make (.pointer (some ⟨w0.heap.size, 0, none⟩)) (w0.drew.alloc (partRow none 0 0 0)) ?_ ⟨map_row (e_on (c1) hx0 (e_lt hx0)), ?_⟩
        · go_simp
        generalize w0.drew.alloc (partRow none 0 0 0) = v1 at *
        simp only [Act.put, List.setIfInBounds_toArray, List.set_cons_zero, List.set_cons_succ]
        repeat (first | (refine Tree.take ?_ (by rfl) ?_ ?_; rotate_left; (· rintro w9 u0; go_simp; (try rw [if_neg (by omega)]); all_goals (with_reducible rfl)); simp only [Act.put, List.setIfInBounds_toArray, List.set_cons_zero, List.set_cons_succ]))
        refine Tree.only (by rfl) ?_
        refine Tree.wp_call 29 _ ?_ (HS.out _ (hb0.trans (c1.mono hb0.size))) ?_
        · go_simp
        rintro e9 w2 ⟨rfl, h2⟩
        have c2 := c1.trans (h2.mono c1.size)
        have g2 := e_on h2 g1 (e_lt g1)
        refine ⟨_, rfl, (map_row (e_on (c2) hx0 (e_lt hx0))), ?_⟩
        simp only [Act.put, List.setIfInBounds_toArray, List.set_cons_zero, List.set_cons_succ]
        repeat (first | (refine Tree.take ?_ (by rfl) ?_ ?_; rotate_left; (· rintro w9 u0; go_simp; (try rw [if_neg (by omega)]); all_goals (with_reducible rfl)); simp only [Act.put, List.setIfInBounds_toArray, List.set_cons_zero, List.set_cons_succ]))
        refine Tree.only (by rfl) ?_
        refine Tree.wp_call 38 _ ?_ (HP.out _ (hb0.trans (c2.mono hb0.size))) ?_
        · go_simp
        rintro e9 w3 ⟨rfl, h3⟩
        have c3 := c2.trans (h3.mono c2.size)
        have g3 := e_on h3 g2 (e_lt g2)
        refine ⟨_, rfl, (map_row (e_on (c3) hx0 (e_lt hx0))), ?_⟩
        simp only [Act.put, List.setIfInBounds_toArray, List.set_cons_zero, List.set_cons_succ]
        repeat (first | (refine Tree.take ?_ (by rfl) ?_ ?_; rotate_left; (· rintro w9 u0; go_simp; (try rw [if_neg (by omega)]); all_goals (with_reducible rfl)); simp only [Act.put, List.setIfInBounds_toArray, List.set_cons_zero, List.set_cons_succ]))
        have c4 := below_setRow c3 q1 #[.slice (some x) n c, .int .i64 ST]
        have g4 := setRow_heap w3 w0.heap.size _ #[.slice (some x) n c, .int .i64 ST] _ _ g3
        refine Tree.only (by rfl) (wp_store_row 70 _ _ rfl w0.heap.size #[.slice (some x) n c, .int .i64 ST] (by rfl) (by rfl) 70 _ g3 part_info rfl (by simp [Value.oneCell']) ⟨map_row (e_on (c4) hx0 (e_lt hx0)), ?_⟩)
        simp only [Act.put]
        repeat (first | (refine Tree.take ?_ (by rfl) ?_ ?_; rotate_left; (· rintro w9 u0; go_simp; (try rw [if_neg (by omega)]); all_goals (with_reducible rfl)); simp only [Act.put, List.setIfInBounds_toArray, List.set_cons_zero, List.set_cons_succ]))
        refine Tree.ends ?_
        go_wp2_with fail
        go_meet
        exact ⟨w0.heap.size, rfl, rfl, q1, g4, c4⟩
    case rest =>
      obtain ⟨g, rfl, rfl, hg, hgr, hc1⟩ := hcut
      have hr1 := e_on hc1 hr0 (e_lt hr0)
      have hx1 := e_on hc1 hx0 (e_lt hx0)
      have hp1 := e_on hc1 hp0 (e_lt hp0)
      have hq1 := e_on hc1 hq0 (e_lt hq0)
      have b1 := hb0.trans (hc1.mono hb0.size)
      have hs0 := e_lt hr0
      rw [← hST] at hgr
      clear hST
      go_wp2_with fail
      refine Plan.start (fun W => (W.cell? ⟨g, 0, none⟩ = some (.slice (some x) n c) ∧ W.cell? ⟨g, 1, none⟩ = some (.int .i64 k)) ∧ (W.cell? ⟨w.heap.size + 1, 0, none⟩ = some (.int .i64 fz) ∧ W.cell? ⟨w.heap.size + 1, 1, none⟩ = some (.int .i64 fo)) ∧ W.cell? ⟨w.heap.size + 2, 0, none⟩ = some (.int .i64 tz) ∧ W.cell? ⟨w.heap.size + 2, 1, none⟩ = some (.int .i64 tq)) [(0, true), (2, true), (3, true), (4, true), (5, true), (6, true), (1, false), (7, false), (8, true), (9, true), (10, true), (11, true), (12, true)] (by kernel_rfl) (by kernel_rfl) (by kernel_rfl) (by kernel_rfl) ⟨part_row hgr, place_row hp1, place_row hq1⟩ ?_
      simp only [List.map_cons, List.map_nil, List.getElem?_toArray, List.getElem?_cons_zero, List.getElem?_cons_succ]
      repeat (first | (refine Plan.take ?_ (by rfl) ?_ ?_; rotate_left; (· rintro w9 ⟨⟨u0, u1⟩, ⟨u2, u3⟩, u4, u5⟩; go_simp; (try rw [if_neg (by omega)]); all_goals (with_reducible rfl)); simp only [Act.put, List.setIfInBounds_toArray, List.set_cons_zero, List.set_cons_succ]) | (refine Plan.pass (by rfl) ?_; simp only [Act.put, List.setIfInBounds_toArray, List.set_cons_zero, List.set_cons_succ]))
      refine Plan.call (by rfl) 40 _ ?_ (HLI.out _ b1.drew) ?_
      · go_simp
      rintro e9 w2 ⟨rfl, h2⟩
      have b2 := b1.drew.trans (h2.mono b1.drew.size)
      have hr2 := e_on h2 (show wc.drew.heap[w.heap.size + 3]? = _ from hr1) (e_lt hr1)
      have hx2 := e_on h2 (show wc.drew.heap[w.heap.size]? = _ from hx1) (e_lt hx1)
      have hp2 := e_on h2 (show wc.drew.heap[w.heap.size + 1]? = _ from hp1) (e_lt hp1)
      have hq2 := e_on h2 (show wc.drew.heap[w.heap.size + 2]? = _ from hq1) (e_lt hq1)
      have hg2 := e_on h2 (show wc.drew.heap[g]? = _ from hgr) (e_lt hgr)
      refine ⟨_, rfl, ⟨part_row hg2, place_row hp2, place_row hq2⟩, ?_⟩
      simp only [Act.put, List.setIfInBounds_toArray, List.set_cons_zero, List.set_cons_succ]
      repeat (first | (refine Plan.take ?_ (by rfl) ?_ ?_; rotate_left; (· rintro w9 ⟨⟨u0, u1⟩, ⟨u2, u3⟩, u4, u5⟩; go_simp; (try rw [if_neg (by omega)]); all_goals (with_reducible rfl)); simp only [Act.put, List.setIfInBounds_toArray, List.set_cons_zero, List.set_cons_succ]) | (refine Plan.pass (by rfl) ?_; simp only [Act.put, List.setIfInBounds_toArray, List.set_cons_zero, List.set_cons_succ]))
      refine Plan.call (by rfl) 43 _ ?_ (HRE.out _ b2) ?_
      · go_simp
      rintro e9 w3 ⟨a3, n3, k3, rfl, l3, h3⟩
      have b3 := b2.trans (h3.mono b2.size)
      have hr3 := e_on h3 hr2 (e_lt hr2)
      have hx3 := e_on h3 hx2 (e_lt hx2)
      have hp3 := e_on h3 hp2 (e_lt hp2)
      have hq3 := e_on h3 hq2 (e_lt hq2)
      have hg3 := e_on h3 hg2 (e_lt hg2)
      refine ⟨_, rfl, ⟨part_row hg3, place_row hp3, place_row hq3⟩, ?_⟩
      simp only [Act.put, List.setIfInBounds_toArray, List.set_cons_zero, List.set_cons_succ]
      repeat (first | (refine Plan.take ?_ (by rfl) ?_ ?_; rotate_left; (· rintro w9 ⟨⟨u0, u1⟩, ⟨u2, u3⟩, u4, u5⟩; go_simp; (try rw [if_neg (by omega)]); all_goals (with_reducible rfl)); simp only [Act.put, List.setIfInBounds_toArray, List.set_cons_zero, List.set_cons_succ]) | (refine Plan.pass (by rfl) ?_; simp only [Act.put, List.setIfInBounds_toArray, List.set_cons_zero, List.set_cons_succ]))
      refine Plan.ends ?_
      clear hr1 hx1 hp1 hq1 hr2 hx2 hp2 hq2 hp3 hq3 hgr hg2
      have HW := Lib.hid (pwith_any _ Ls (some x) n c k RL a3 n3 k3 w3 (HML.out _ _ b2 h3) hst l3 hn1000)
      cases MV
      · have hRS := Lib.hid (HF.out rfl)
        clear HT HF
        go_wp2_with (first
          | ((with_reducible refine Plan.load_lit 24 (.tmp 6) w.heap.size ?_ hx3 Try.underlying24 ?_ ?_ ?_); (· rfl); (· rfl); (· exact map_info); simp only [Act.put, List.setIfInBounds_toArray, List.set_cons_zero, List.set_cons_succ])
          | ((with_reducible refine Plan.store_lit 24 (.tmp 12) _ (w.heap.size + 3) ?_ hr3 ?_ ?_ ?_ ?_ ?_ ?_); rotate_left; (· rfl); (· rfl); (· exact map_info); (· rfl); (· simp [Value.oneCell']); simp only [Act.put]))
        exact bodyPost_ret (Plan.results_cell_tmp (p := 12) (q := 13) rfl _ _ _ _ _ _ _ rfl (setRow_heap _ _ _ _ _ _ hr3) Try.underlying24 rfl map_info) rfl ⟨_, _, _, rfl, by rw [hRS.out]; exact HEND.out _ b3 _, below_setRow b3 (show w.heap.size ≤ w.heap.size + 3 by omega) _⟩
      · have hRS := Lib.hid (HT.out rfl)
        clear HT HF
        have hs2 := e_lt hr3
        have hs3 := b2.size
        have hs4 := h3.size
        have hs5 := h2.size
        have hs6 : w.heap.size + 3 < w2.heap.size := Nat.lt_of_lt_of_le (Nat.lt_of_lt_of_le hs0 hc1.size) hs5
        go_wp2_with (first
          | ((with_reducible refine Plan.load_lit 70 (.tmp 14) g ?_ hg3 Try.underlying70 ?_ ?_ ?_); (· rfl); (· rfl); (· exact part_info); simp only [Act.put, List.setIfInBounds_toArray, List.set_cons_zero, List.set_cons_succ])
          | (go_at_call 41; ((with_reducible refine HW.out.mono ?_); rintro r9 w4 ⟨g4, c4, rfl, l4, h4⟩; have hr4 := e_on h4 hr3 (e_lt hr3); have b4 := b3.trans (h4.mono b3.size)))
          | ((with_reducible refine Plan.store_lit 24 (.tmp 12) _ (w.heap.size + 3) ?_ hr4 ?_ ?_ ?_ ?_ ?_ ?_); rotate_left; (· rfl); (· rfl); (· exact map_info); (· rfl); (· simp [Value.oneCell']); simp only [Act.put]))
        have hN : ∀ b, Plus (Plus (fun b => F b ∧ b < w.heap.size) w2.heap.size) w3.heap.size b → b ≠ w.heap.size + 3 ∧ Plus F w.heap.size b := fun b h => by
          rcases h with (h | h) | h
          · exact ⟨by have := h.2; omega, .inl h.1⟩
          · exact ⟨by omega, .inr (by omega)⟩
          · exact ⟨by omega, .inr (by omega)⟩
        have M9 := (l4.on (Same.row (r := w.heap.size + 3) (fun h9 => (hN _ h9).1 rfl) #[.slice (some ⟨g4, 0, none⟩) n c4])).mono (G := Plus F w.heap.size) (fun b _ h9 => (hN b h9).2)
        exact bodyPost_ret (Plan.results_cell_tmp (p := 12) (q := 13) rfl _ _ _ _ _ _ _ rfl (setRow_heap _ _ _ _ _ _ hr4) Try.underlying24 rfl map_info) rfl ⟨_, _, _, rfl, by rw [hRS.out]; exact M9, below_setRow b4 (show w.heap.size ≤ w.heap.size + 3 by omega) _⟩
end Go.Proofs.Ytljobnfilnbefaa.Ents

/- The walk of the program's Install of a map; what the program keeps. -/
namespace Go.Proofs.Ytljobnfilnbefaa.Ents
open Go.RowKit Plan EntMath
set_option maxHeartbeats 16000000 in
set_option maxRecDepth 20000 in
theorem minstall_any (F : Nat → Prop) (Ls : List (List Ent)) (e : Ent) (a : Option Addr) (n c : Nat) (w : World) (hl : MList w F a n c Ls) (hm : Near Ls) :
    Calls Try.prog 24 #[mapV a n c, entV e] w (InstMPost w F (installM Ls e) (installME Ls e) (newerM Ls e)) := by
  have hlen := hl.length
  obtain ⟨eb, ek, ev, em, ez, eo⟩ := e
  have hb0 : Below w.heap.size w ((((w.alloc (mapRow a n c)).alloc (entRow eb ek ev em ez eo)).alloc (mapRow none 0 0)).alloc (entRow 0 0 0 0 0 0)) := ((((Below.refl w.heap.size w).alloc (Nat.le_refl _) _).alloc (by simp) _).alloc (by simp; omega) _).alloc (by simp; omega) _
  obtain ⟨hx0, he0, hq0, hr0⟩ := heap4 w (mapRow a n c) (entRow eb ek ev em ez eo) (mapRow none 0 0) (entRow 0 0 0 0 0 0)
  have HS := Lib.hid (fun W (h : Below w.heap.size w W) => stripe_any _ Ls eb a n c W (hl.same h))
  have HP := Lib.hid (fun W (h : Below w.heap.size w W) => partOf_any _ Ls (stripe Ls eb) a n c W (hl.same h))
  rw [part_stripe] at HP
  have HEND := Lib.hid (fun W (h : Below w.heap.size w W) (cs cs2 : Array Value) => (show MList ((W.setRow (w.heap.size + 2) cs).setRow (w.heap.size + 3) cs2) (Plus F w.heap.size) a n c Ls from
    (((hl.cut.on (Same.below (w' := W) h)).on (Same.row (r := w.heap.size + 2) (fun h9 => by have := h9.2; omega) cs)).on (Same.row (r := w.heap.size + 3) (fun h9 => by have := h9.2; omega) cs2)).mono (fun b _ h => .inl h.1)))
  cases hg : (validM Ls && decide (0 ≤ eb))
  · obtain ⟨r1, r2, r3⟩ := instM_no (Ls := Ls) (e := ⟨eb, ek, ev, em, ez, eo⟩) (part_no hg)
    rw [r1, r2, r3]
    clear r1 r2 r3
    generalize hST : stripe Ls eb = ST at *
    rw [hg] at HP
    have c0 := Below.refl ((((w.alloc (mapRow a n c)).alloc (entRow eb ek ev em ez eo)).alloc (mapRow none 0 0)).alloc (entRow 0 0 0 0 0 0)).heap.size ((((w.alloc (mapRow a n c)).alloc (entRow eb ek ev em ez eo)).alloc (mapRow none 0 0)).alloc (entRow 0 0 0 0 0 0))
    clear hST hg hl hm
    go_enter Try.func24, Try.ntmps24
    generalize hw0 : (((w.alloc (mapRow a n c)).alloc (entRow eb ek ev em ez eo)).alloc (mapRow none 0 0)).alloc (entRow 0 0 0 0 0 0) = w0 at *
    go_upto_region 1 with fail
    go_cut [7, 8] (fun s6 s7 wx => ∃ g : Nat, s6 = .pointer (some ⟨g, 0, none⟩) ∧ s7 = .bool false ∧ w0.heap.size ≤ g ∧ wx.heap[g]? = some (partRow a n c ST) ∧ Below w0.heap.size w0 wx)
    case first =>
      refine Tree.start (fun W => W.cell? ⟨w.heap.size, 0, none⟩ = some (.slice a n c) ∧ W.cell? ⟨w.heap.size + 1, 0, none⟩ = some (.int .i64 eb)) (.take 0 (.take 1 (.take 2 (.take 3 (.fork 4 (.fork 5 (.take 6 (.take 7 (.take 8 (.only 9 (.only 10 (.take 11 (.done))))))) 9 (.only 5 (.take 6 (.take 7 (.take 8 (.only 10 (.take 11 (.done)))))))) 9 (.only 4 (.only 5 (.take 6 (.take 7 (.take 8 (.only 10 (.take 11 (.done))))))))))))) (by kernel_rfl) (by kernel_rfl) (by kernel_rfl) (by kernel_rfl) (⟨map_row (e_on (c0.drew) hx0 (e_lt hx0)), (entry_row (e_on (c0.drew) he0 (e_lt he0))).1⟩) ?_
      simp only [Tree.T.map, List.getElem?_toArray, List.getElem?_cons_zero, List.getElem?_cons_succ]
      repeat (first | (refine Tree.take ?_ (by rfl) ?_ ?_; rotate_left; (· rintro w9 ⟨u0, u1⟩; go_simp; (try rw [if_neg (by omega)]); all_goals (with_reducible rfl)); simp only [Act.put, List.setIfInBounds_toArray, List.set_cons_zero, List.set_cons_succ]))
      have c9 := c0.drew
      refine Tree.fork (by rfl) (by rfl) ?_ ?_
      · refine Tree.wp_call 29 _ ?_ (HS.out _ (hb0.trans (c9.mono hb0.size))) ?_
        · go_simp
        rintro e9 w1 ⟨rfl, h1⟩
        have c1 := c9.trans (h1.mono c9.size)
        refine ⟨_, rfl, (⟨map_row (e_on (c1) hx0 (e_lt hx0)), (entry_row (e_on (c1) he0 (e_lt he0))).1⟩), ?_⟩
        simp only [Act.put, List.setIfInBounds_toArray, List.set_cons_zero, List.set_cons_succ]
        repeat (first | (refine Tree.take ?_ (by rfl) ?_ ?_; rotate_left; (· rintro w9 ⟨u0, u1⟩; go_simp; (try rw [if_neg (by omega)]); all_goals (with_reducible rfl)); simp only [Act.put, List.setIfInBounds_toArray, List.set_cons_zero, List.set_cons_succ]))
        refine Tree.fork (by rfl) (by rfl) ?_ ?_
        · refine Tree.wp_call 38 _ ?_ (HP.out _ (hb0.trans (c1.mono hb0.size))) ?_
          · go_simp
          rintro e9 w2 ⟨rfl, h2⟩
          have c2 := c1.trans (h2.mono c1.size)
          refine ⟨_, rfl, (⟨map_row (e_on (c2) hx0 (e_lt hx0)), (entry_row (e_on (c2) he0 (e_lt he0))).1⟩), ?_⟩
          simp only [Act.put, List.setIfInBounds_toArray, List.set_cons_zero, List.set_cons_succ]
          repeat (first | (refine Tree.take ?_ (by rfl) ?_ ?_; rotate_left; (· rintro w9 ⟨u0, u1⟩; go_simp; (try rw [if_neg (by omega)]); all_goals (with_reducible rfl)); simp only [Act.put, List.setIfInBounds_toArray, List.set_cons_zero, List.set_cons_succ]))
          refine Tree.only (by rfl) ?_
          have g3 := heap_alloc_new w2 (partRow none 0 0 0)
          have c3 := c2.alloc c2.size (partRow none 0 0 0)
          have q3 : w0.heap.size ≤ (w2).heap.size := c2.size
          generalize hG3 : (w2).heap.size = G at *
          refine Tree.wp_make (.pointer (some ⟨G, 0, none⟩)) ((w2).alloc (partRow none 0 0 0)) ?_ ⟨⟨map_row (e_on (c3) hx0 (e_lt hx0)), (entry_row (e_on (c3) he0 (e_lt he0))).1⟩, ?_⟩
          · rw [← hG3]; go_simp
          clear hG3
          generalize (w2).alloc (partRow none 0 0 0) = v3 at *
          simp only [Act.put, List.setIfInBounds_toArray, List.set_cons_zero, List.set_cons_succ]
          repeat (first | (refine Tree.take ?_ (by rfl) ?_ ?_; rotate_left; (· rintro w9 ⟨u0, u1⟩; go_simp; (try rw [if_neg (by omega)]); all_goals (with_reducible rfl)); simp only [Act.put, List.setIfInBounds_toArray, List.set_cons_zero, List.set_cons_succ]))
          have c4 := below_setRow c3 q3 #[.slice a n c, .int .i64 ST]
          have g4 := setRow_heap v3 G _ #[.slice a n c, .int .i64 ST] _ _ g3
          refine Tree.only (by rfl) (wp_store_row 70 _ _ rfl G #[.slice a n c, .int .i64 ST] (by rfl) (by rfl) 70 _ g3 part_info rfl (by simp [Value.oneCell']) ⟨⟨map_row (e_on (c4) hx0 (e_lt hx0)), (entry_row (e_on (c4) he0 (e_lt he0))).1⟩, ?_⟩)
          simp only [Act.put]
          repeat (first | (refine Tree.take ?_ (by rfl) ?_ ?_; rotate_left; (· rintro w9 ⟨u0, u1⟩; go_simp; (try rw [if_neg (by omega)]); all_goals (with_reducible rfl)); simp only [Act.put, List.setIfInBounds_toArray, List.set_cons_zero, List.set_cons_succ]))
          refine Tree.ends ?_
          go_wp2_with fail
          go_meet
          exact ⟨G, rfl, rfl, q3, g4, c4⟩
        · have g2 := heap_alloc_new w1 (partRow none 0 0 0)
          have c2 := c1.alloc c1.size (partRow none 0 0 0)
          have q2 : w0.heap.size ≤ (w1).heap.size := c1.size
          generalize hG2 : (w1).heap.size = G at *
          refine Tree.wp_make (.pointer (some ⟨G, 0, none⟩)) ((w1).alloc (partRow none 0 0 0)) ?_ ⟨⟨map_row (e_on (c2) hx0 (e_lt hx0)), (entry_row (e_on (c2) he0 (e_lt he0))).1⟩, ?_⟩
          · rw [← hG2]; go_simp
          clear hG2
          generalize (w1).alloc (partRow none 0 0 0) = v2 at *
          simp only [Act.put, List.setIfInBounds_toArray, List.set_cons_zero, List.set_cons_succ]
          repeat (first | (refine Tree.take ?_ (by rfl) ?_ ?_; rotate_left; (· rintro w9 ⟨u0, u1⟩; go_simp; (try rw [if_neg (by omega)]); all_goals (with_reducible rfl)); simp only [Act.put, List.setIfInBounds_toArray, List.set_cons_zero, List.set_cons_succ]))
          refine Tree.only (by rfl) ?_
          refine Tree.wp_call 38 _ ?_ (HP.out _ (hb0.trans (c2.mono hb0.size))) ?_
          · go_simp
          rintro e9 w3 ⟨rfl, h3⟩
          have c3 := c2.trans (h3.mono c2.size)
          have g3 := e_on h3 g2 (e_lt g2)
          refine ⟨_, rfl, (⟨map_row (e_on (c3) hx0 (e_lt hx0)), (entry_row (e_on (c3) he0 (e_lt he0))).1⟩), ?_⟩
          simp only [Act.put, List.setIfInBounds_toArray, List.set_cons_zero, List.set_cons_succ]
          repeat (first | (refine Tree.take ?_ (by rfl) ?_ ?_; rotate_left; (· rintro w9 ⟨u0, u1⟩; go_simp; (try rw [if_neg (by omega)]); all_goals (with_reducible rfl)); simp only [Act.put, List.setIfInBounds_toArray, List.set_cons_zero, List.set_cons_succ]))
          have c4 := below_setRow c3 q2 #[.slice a n c, .int .i64 ST]
          have g4 := setRow_heap w3 G _ #[.slice a n c, .int .i64 ST] _ _ g3
          refine Tree.only (by rfl) (wp_store_row 70 _ _ rfl G #[.slice a n c, .int .i64 ST] (by rfl) (by rfl) 70 _ g3 part_info rfl (by simp [Value.oneCell']) ⟨⟨map_row (e_on (c4) hx0 (e_lt hx0)), (entry_row (e_on (c4) he0 (e_lt he0))).1⟩, ?_⟩)
          simp only [Act.put]
          repeat (first | (refine Tree.take ?_ (by rfl) ?_ ?_; rotate_left; (· rintro w9 ⟨u0, u1⟩; go_simp; (try rw [if_neg (by omega)]); all_goals (with_reducible rfl)); simp only [Act.put, List.setIfInBounds_toArray, List.set_cons_zero, List.set_cons_succ]))
          refine Tree.ends ?_
          go_wp2_with fail
          go_meet
          exact ⟨G, rfl, rfl, q2, g4, c4⟩
      · have g1 : (w0.drew.alloc (partRow none 0 0 0)).heap[w0.heap.size]? = some (partRow none 0 0 0) := heap_alloc_new w0.drew (partRow none 0 0 0)
        have c1 := c9.alloc c9.size (partRow none 0 0 0)
        have q1 : w0.heap.size ≤ w0.heap.size := Nat.le_refl _
        refine Tree.wp_make (.pointer (some ⟨w0.heap.size, 0, none⟩)) (w0.drew.alloc (partRow none 0 0 0)) ?_ ⟨⟨map_row (e_on (c1) hx0 (e_lt hx0)), (entry_row (e_on (c1) he0 (e_lt he0))).1⟩, ?_⟩
        · go_simp
        generalize w0.drew.alloc (partRow none 0 0 0) = v1 at *
        simp only [Act.put, List.setIfInBounds_toArray, List.set_cons_zero, List.set_cons_succ]
        repeat (first | (refine Tree.take ?_ (by rfl) ?_ ?_; rotate_left; (· rintro w9 ⟨u0, u1⟩; go_simp; (try rw [if_neg (by omega)]); all_goals (with_reducible rfl)); simp only [Act.put, List.setIfInBounds_toArray, List.set_cons_zero, List.set_cons_succ]))
        refine Tree.only (by rfl) ?_
        refine Tree.wp_call 29 _ ?_ (HS.out _ (hb0.trans (c1.mono hb0.size))) ?_
        · go_simp
        rintro e9 w2 ⟨rfl, h2⟩
        have c2 := c1.trans (h2.mono c1.size)
        have g2 := e_on h2 g1 (e_lt g1)
        refine ⟨_, rfl, (⟨map_row (e_on (c2) hx0 (e_lt hx0)), (entry_row (e_on (c2) he0 (e_lt he0))).1⟩), ?_⟩
        simp only [Act.put, List.setIfInBounds_toArray, List.set_cons_zero, List.set_cons_succ]
        repeat (first | (refine Tree.take ?_ (by rfl) ?_ ?_; rotate_left; (· rintro w9 ⟨u0, u1⟩; go_simp; (try rw [if_neg (by omega)]); all_goals (with_reducible rfl)); simp only [Act.put, List.setIfInBounds_toArray, List.set_cons_zero, List.set_cons_succ]))
        refine Tree.only (by rfl) ?_
        refine Tree.wp_call 38 _ ?_ (HP.out _ (hb0.trans (c2.mono hb0.size))) ?_
        · go_simp
        rintro e9 w3 ⟨rfl, h3⟩
        have c3 := c2.trans (h3.mono c2.size)
        have g3 := e_on h3 g2 (e_lt g2)
        refine ⟨_, rfl, (⟨map_row (e_on (c3) hx0 (e_lt hx0)), (entry_row (e_on (c3) he0 (e_lt he0))).1⟩), ?_⟩
        simp only [Act.put, List.setIfInBounds_toArray, List.set_cons_zero, List.set_cons_succ]
        repeat (first | (refine Tree.take ?_ (by rfl) ?_ ?_; rotate_left; (· rintro w9 ⟨u0, u1⟩; go_simp; (try rw [if_neg (by omega)]); all_goals (with_reducible rfl)); simp only [Act.put, List.setIfInBounds_toArray, List.set_cons_zero, List.set_cons_succ]))
        have c4 := below_setRow c3 q1 #[.slice a n c, .int .i64 ST]
        have g4 := setRow_heap w3 w0.heap.size _ #[.slice a n c, .int .i64 ST] _ _ g3
        refine Tree.only (by rfl) (wp_store_row 70 _ _ rfl w0.heap.size #[.slice a n c, .int .i64 ST] (by rfl) (by rfl) 70 _ g3 part_info rfl (by simp [Value.oneCell']) ⟨⟨map_row (e_on (c4) hx0 (e_lt hx0)), (entry_row (e_on (c4) he0 (e_lt he0))).1⟩, ?_⟩)
        simp only [Act.put]
        repeat (first | (refine Tree.take ?_ (by rfl) ?_ ?_; rotate_left; (· rintro w9 ⟨u0, u1⟩; go_simp; (try rw [if_neg (by omega)]); all_goals (with_reducible rfl)); simp only [Act.put, List.setIfInBounds_toArray, List.set_cons_zero, List.set_cons_succ]))
        refine Tree.ends ?_
        go_wp2_with fail
        go_meet
        exact ⟨w0.heap.size, rfl, rfl, q1, g4, c4⟩
    case rest =>
      obtain ⟨g, rfl, rfl, hg, hgr, hc1⟩ := hcut
      have hr1 := e_on hc1 hr0 (e_lt hr0)
      have hq1 := e_on hc1 hq0 (e_lt hq0)
      have hx1 := e_on hc1 hx0 (e_lt hx0)
      have b1 := hb0.trans (hc1.mono hb0.size)
      go_wp2_with (first
        | ((with_reducible refine Plan.load_lit 24 (.tmp 2) w.heap.size ?_ hx1 Try.underlying24 ?_ ?_ ?_); (· rfl); (· rfl); (· exact map_info); simp only [Act.put, List.setIfInBounds_toArray, List.set_cons_zero, List.set_cons_succ])
        | ((with_reducible refine Plan.store_lit 24 (.tmp 4) _ (w.heap.size + 2) ?_ hq1 ?_ ?_ ?_ ?_ ?_ ?_); rotate_left; (· rfl); (· rfl); (· exact map_info); (· rfl); (· simp [Value.oneCell']); simp only [Act.put])
        | ((with_reducible refine Plan.store_lit 28 (.tmp 5) _ (w.heap.size + 3) ?_ ((setRow_other wc (w.heap.size + 2) (w.heap.size + 3) #[.slice a n c] (by omega)).trans hr1) ?_ ?_ ?_ ?_ ?_ ?_); rotate_left; (· rfl); (· rfl); (· exact entry_info); (· rfl); (· simp [Value.oneCell']); simp only [Act.put]))
      have hqf := (setRow_other (wc.setRow (w.heap.size + 2) #[.slice a n c]) (w.heap.size + 3) (w.heap.size + 2) #[.int .i64 0, .int .i64 0, .int .i64 0, .int .i64 0, .int .i64 0, .int .i64 0] (by omega)).trans (setRow_heap wc (w.heap.size + 2) _ #[.slice a n c] _ _ hq1)
      have hrf := setRow_heap (wc.setRow (w.heap.size + 2) #[.slice a n c]) (w.heap.size + 3) _ #[.int .i64 0, .int .i64 0, .int .i64 0, .int .i64 0, .int .i64 0, .int .i64 0] _ _ ((setRow_other wc (w.heap.size + 2) (w.heap.size + 3) #[.slice a n c] (by omega)).trans hr1)
      have bf := below_setRow (below_setRow b1 (show w.heap.size ≤ w.heap.size + 2 by omega) #[.slice a n c]) (show w.heap.size ≤ w.heap.size + 3 by omega) #[.int .i64 0, .int .i64 0, .int .i64 0, .int .i64 0, .int .i64 0, .int .i64 0]
      exact bodyPost_ret (results_cct (p := 4) (q := 5) (r := 6) rfl _ _ _ _ _ _ _ _ _ _ _ _ rfl rfl hqf Try.underlying24 rfl map_info hrf Try.underlying28 rfl entry_info) rfl ⟨_, _, _, rfl, HEND.out _ b1 _ _, bf⟩
  · obtain ⟨hva, h0⟩ := part_yes hg
    obtain ⟨r1, r2, r3⟩ := instM_at (e := ⟨eb, ek, ev, em, ez, eo⟩) hva h0
    rw [r1, r2, r3]
    try simp only
    clear r1 r2 r3
    have hst := st_lt hva eb
    rw [hlen] at hst
    have hat := shard_at hva eb
    obtain ⟨x, L, b', m', kk, rfl, hL, hcc, hle⟩ := hl.at' (st Ls eb) hst
    rw [hat] at hL
    obtain rfl := Option.some.inj hL
    have hn8 := (validM_iff.1 hva).1.2
    have hme := flat_each (hm hn8) _ (List.mem_of_getElem? hat)
    rw [hle.length] at hme
    have HPIN := Lib.hid (pinF hcc hle)
    have hxlt : x.block < w.heap.size := by
      have := World.block_lt_of_cell? w _ hcc
      rwa [ent_add_block] at this
    have HLI := Lib.hid (fun W (h : Below w.heap.size w W) => plist_any x n c (st Ls eb) b' m' kk W hst (Nat.lt_of_lt_of_le hxlt h.size) (HPIN.out W h).1)
    have HIN := Lib.hid (fun W (h : Below w.heap.size w W) => shardOk.install (fun b => F b ∧ b < w.heap.size) (shardOf Ls eb) ⟨eb, ek, ev, em, ez, eo⟩ b' m' kk W (fun b h9 => Nat.lt_of_lt_of_le h9.2 h.size) (HPIN.out W h).2 (by omega))
    have HML := Lib.hid (fun W W' (h : Below w.heap.size w W) (h2 : Below W.heap.size W W') => (show MList W' (Plus (fun b => F b ∧ b < w.heap.size) W.heap.size) (some x) n c Ls from
      ((hl.cut.on (Same.below h)).on (Same.below h2)).mono fun _ _ h => .inl h))
    rw [stripe_eq hva h0] at HS HP
    unfold InstPost at HIN
    generalize installL (shardOf Ls eb) ⟨eb, ek, ev, em, ez, eo⟩ = RL at *
    generalize installE (shardOf Ls eb) ⟨eb, ek, ev, em, ez, eo⟩ = YE at *
    generalize newer (shardOf Ls eb) ⟨eb, ek, ev, em, ez, eo⟩ = MV at *
    obtain ⟨yb, yk, yv, ym, yz, yo⟩ := YE
    try simp only at HIN
    have hn1000 : n ≤ 1000 := by omega
    clear hva h0 hat hcc hle hme hl hm hn8
    generalize hSt : st Ls eb = k at *
    clear hSt
    have HT := Lib.hid (fun (h : MV = true) => (if_pos h : (if MV = true then Ls.set k RL else Ls) = Ls.set k RL))
    have HF := Lib.hid (fun (h : MV = false) => (if_neg (by rw [h]; decide) : (if MV = true then Ls.set k RL else Ls) = Ls))
    generalize (if MV = true then Ls.set k RL else Ls) = RS at *
    generalize hST : (k : Int) = ST at HS HP
    rw [hg] at HP
    have c0 := Below.refl ((((w.alloc (mapRow (some x) n c)).alloc (entRow eb ek ev em ez eo)).alloc (mapRow none 0 0)).alloc (entRow 0 0 0 0 0 0)).heap.size ((((w.alloc (mapRow (some x) n c)).alloc (entRow eb ek ev em ez eo)).alloc (mapRow none 0 0)).alloc (entRow 0 0 0 0 0 0))
    clear hg
    go_enter Try.func24, Try.ntmps24
    generalize hw0 : (((w.alloc (mapRow (some x) n c)).alloc (entRow eb ek ev em ez eo)).alloc (mapRow none 0 0)).alloc (entRow 0 0 0 0 0 0) = w0 at *
    go_upto_region 1 with fail
    go_cut [7, 8] (fun s6 s7 wx => ∃ g : Nat, s6 = .pointer (some ⟨g, 0, none⟩) ∧ s7 = .bool true ∧ w0.heap.size ≤ g ∧ wx.heap[g]? = some (partRow (some x) n c ST) ∧ Below w0.heap.size w0 wx)
    case first =>
      refine Tree.start (fun W => W.cell? ⟨w.heap.size, 0, none⟩ = some (.slice (some x) n c) ∧ W.cell? ⟨w.heap.size + 1, 0, none⟩ = some (.int .i64 eb)) (.take 0 (.take 1 (.take 2 (.take 3 (.fork 4 (.fork 5 (.take 6 (.take 7 (.take 8 (.only 9 (.only 10 (.take 11 (.done))))))) 9 (.only 5 (.take 6 (.take 7 (.take 8 (.only 10 (.take 11 (.done)))))))) 9 (.only 4 (.only 5 (.take 6 (.take 7 (.take 8 (.only 10 (.take 11 (.done))))))))))))) (by kernel_rfl) (by kernel_rfl) (by kernel_rfl) (by kernel_rfl) (⟨map_row (e_on (c0.drew) hx0 (e_lt hx0)), (entry_row (e_on (c0.drew) he0 (e_lt he0))).1⟩) ?_
      simp only [Tree.T.map, List.getElem?_toArray, List.getElem?_cons_zero, List.getElem?_cons_succ]
      repeat (first | (refine Tree.take ?_ (by rfl) ?_ ?_; rotate_left; (· rintro w9 ⟨u0, u1⟩; go_simp; (try rw [if_neg (by omega)]); all_goals (with_reducible rfl)); simp only [Act.put, List.setIfInBounds_toArray, List.set_cons_zero, List.set_cons_succ]))
      have c9 := c0.drew
      refine Tree.fork (by rfl) (by rfl) ?_ ?_
      · refine Tree.wp_call 29 _ ?_ (HS.out _ (hb0.trans (c9.mono hb0.size))) ?_
        · go_simp
        rintro e9 w1 ⟨rfl, h1⟩
        have c1 := c9.trans (h1.mono c9.size)
        refine ⟨_, rfl, (⟨map_row (e_on (c1) hx0 (e_lt hx0)), (entry_row (e_on (c1) he0 (e_lt he0))).1⟩), ?_⟩
        simp only [Act.put, List.setIfInBounds_toArray, List.set_cons_zero, List.set_cons_succ]
        repeat (first | (refine Tree.take ?_ (by rfl) ?_ ?_; rotate_left; (· rintro w9 ⟨u0, u1⟩; go_simp; (try rw [if_neg (by omega)]); all_goals (with_reducible rfl)); simp only [Act.put, List.setIfInBounds_toArray, List.set_cons_zero, List.set_cons_succ]))
        refine Tree.fork (by rfl) (by rfl) ?_ ?_
        · refine Tree.wp_call 38 _ ?_ (HP.out _ (hb0.trans (c1.mono hb0.size))) ?_
          · go_simp
          rintro e9 w2 ⟨rfl, h2⟩
          have c2 := c1.trans (h2.mono c1.size)
          refine ⟨_, rfl, (⟨map_row (e_on (c2) hx0 (e_lt hx0)), (entry_row (e_on (c2) he0 (e_lt he0))).1⟩), ?_⟩
          simp only [Act.put, List.setIfInBounds_toArray, List.set_cons_zero, List.set_cons_succ]
          repeat (first | (refine Tree.take ?_ (by rfl) ?_ ?_; rotate_left; (· rintro w9 ⟨u0, u1⟩; go_simp; (try rw [if_neg (by omega)]); all_goals (with_reducible rfl)); simp only [Act.put, List.setIfInBounds_toArray, List.set_cons_zero, List.set_cons_succ]))
          refine Tree.only (by rfl) ?_
          have g3 := heap_alloc_new w2 (partRow none 0 0 0)
          have c3 := c2.alloc c2.size (partRow none 0 0 0)
          have q3 : w0.heap.size ≤ (w2).heap.size := c2.size
          generalize hG3 : (w2).heap.size = G at *
          refine Tree.wp_make (.pointer (some ⟨G, 0, none⟩)) ((w2).alloc (partRow none 0 0 0)) ?_ ⟨⟨map_row (e_on (c3) hx0 (e_lt hx0)), (entry_row (e_on (c3) he0 (e_lt he0))).1⟩, ?_⟩
          · rw [← hG3]; go_simp
          clear hG3
          generalize (w2).alloc (partRow none 0 0 0) = v3 at *
          simp only [Act.put, List.setIfInBounds_toArray, List.set_cons_zero, List.set_cons_succ]
          repeat (first | (refine Tree.take ?_ (by rfl) ?_ ?_; rotate_left; (· rintro w9 ⟨u0, u1⟩; go_simp; (try rw [if_neg (by omega)]); all_goals (with_reducible rfl)); simp only [Act.put, List.setIfInBounds_toArray, List.set_cons_zero, List.set_cons_succ]))
          have c4 := below_setRow c3 q3 #[.slice (some x) n c, .int .i64 ST]
          have g4 := setRow_heap v3 G _ #[.slice (some x) n c, .int .i64 ST] _ _ g3
          refine Tree.only (by rfl) (wp_store_row 70 _ _ rfl G #[.slice (some x) n c, .int .i64 ST] (by rfl) (by rfl) 70 _ g3 part_info rfl (by simp [Value.oneCell']) ⟨⟨map_row (e_on (c4) hx0 (e_lt hx0)), (entry_row (e_on (c4) he0 (e_lt he0))).1⟩, ?_⟩)
          simp only [Act.put]
          repeat (first | (refine Tree.take ?_ (by rfl) ?_ ?_; rotate_left; (· rintro w9 ⟨u0, u1⟩; go_simp; (try rw [if_neg (by omega)]); all_goals (with_reducible rfl)); simp only [Act.put, List.setIfInBounds_toArray, List.set_cons_zero, List.set_cons_succ]))
          refine Tree.ends ?_
          go_wp2_with fail
          go_meet
          exact ⟨G, rfl, rfl, q3, g4, c4⟩
        · have g2 := heap_alloc_new w1 (partRow none 0 0 0)
          have c2 := c1.alloc c1.size (partRow none 0 0 0)
          have q2 : w0.heap.size ≤ (w1).heap.size := c1.size
          generalize hG2 : (w1).heap.size = G at *
          refine Tree.wp_make (.pointer (some ⟨G, 0, none⟩)) ((w1).alloc (partRow none 0 0 0)) ?_ ⟨⟨map_row (e_on (c2) hx0 (e_lt hx0)), (entry_row (e_on (c2) he0 (e_lt he0))).1⟩, ?_⟩
          · rw [← hG2]; go_simp
          clear hG2
          generalize (w1).alloc (partRow none 0 0 0) = v2 at *
          simp only [Act.put, List.setIfInBounds_toArray, List.set_cons_zero, List.set_cons_succ]
          repeat (first | (refine Tree.take ?_ (by rfl) ?_ ?_; rotate_left; (· rintro w9 ⟨u0, u1⟩; go_simp; (try rw [if_neg (by omega)]); all_goals (with_reducible rfl)); simp only [Act.put, List.setIfInBounds_toArray, List.set_cons_zero, List.set_cons_succ]))
          refine Tree.only (by rfl) ?_
          refine Tree.wp_call 38 _ ?_ (HP.out _ (hb0.trans (c2.mono hb0.size))) ?_
          · go_simp
          rintro e9 w3 ⟨rfl, h3⟩
          have c3 := c2.trans (h3.mono c2.size)
          have g3 := e_on h3 g2 (e_lt g2)
          refine ⟨_, rfl, (⟨map_row (e_on (c3) hx0 (e_lt hx0)), (entry_row (e_on (c3) he0 (e_lt he0))).1⟩), ?_⟩
          simp only [Act.put, List.setIfInBounds_toArray, List.set_cons_zero, List.set_cons_succ]
          repeat (first | (refine Tree.take ?_ (by rfl) ?_ ?_; rotate_left; (· rintro w9 ⟨u0, u1⟩; go_simp; (try rw [if_neg (by omega)]); all_goals (with_reducible rfl)); simp only [Act.put, List.setIfInBounds_toArray, List.set_cons_zero, List.set_cons_succ]))
          have c4 := below_setRow c3 q2 #[.slice (some x) n c, .int .i64 ST]
          have g4 := setRow_heap w3 G _ #[.slice (some x) n c, .int .i64 ST] _ _ g3
          refine Tree.only (by rfl) (wp_store_row 70 _ _ rfl G #[.slice (some x) n c, .int .i64 ST] (by rfl) (by rfl) 70 _ g3 part_info rfl (by simp [Value.oneCell']) ⟨⟨map_row (e_on (c4) hx0 (e_lt hx0)), (entry_row (e_on (c4) he0 (e_lt he0))).1⟩, ?_⟩)
          simp only [Act.put]
          repeat (first | (refine Tree.take ?_ (by rfl) ?_ ?_; rotate_left; (· rintro w9 ⟨u0, u1⟩; go_simp; (try rw [if_neg (by omega)]); all_goals (with_reducible rfl)); simp only [Act.put, List.setIfInBounds_toArray, List.set_cons_zero, List.set_cons_succ]))
          refine Tree.ends ?_
          go_wp2_with fail
          go_meet
          exact ⟨G, rfl, rfl, q2, g4, c4⟩
      · have g1 : (w0.drew.alloc (partRow none 0 0 0)).heap[w0.heap.size]? = some (partRow none 0 0 0) := heap_alloc_new w0.drew (partRow none 0 0 0)
        have c1 := c9.alloc c9.size (partRow none 0 0 0)
        have q1 : w0.heap.size ≤ w0.heap.size := Nat.le_refl _
        refine Tree.wp_make (.pointer (some ⟨w0.heap.size, 0, none⟩)) (w0.drew.alloc (partRow none 0 0 0)) ?_ ⟨⟨map_row (e_on (c1) hx0 (e_lt hx0)), (entry_row (e_on (c1) he0 (e_lt he0))).1⟩, ?_⟩
        · go_simp
        generalize w0.drew.alloc (partRow none 0 0 0) = v1 at *
        simp only [Act.put, List.setIfInBounds_toArray, List.set_cons_zero, List.set_cons_succ]
        repeat (first | (refine Tree.take ?_ (by rfl) ?_ ?_; rotate_left; (· rintro w9 ⟨u0, u1⟩; go_simp; (try rw [if_neg (by omega)]); all_goals (with_reducible rfl)); simp only [Act.put, List.setIfInBounds_toArray, List.set_cons_zero, List.set_cons_succ]))
        refine Tree.only (by rfl) ?_
        refine Tree.wp_call 29 _ ?_ (HS.out _ (hb0.trans (c1.mono hb0.size))) ?_
        · go_simp
        rintro e9 w2 ⟨rfl, h2⟩
        have c2 := c1.trans (h2.mono c1.size)
        have g2 := e_on h2 g1 (e_lt g1)
        refine ⟨_, rfl, (⟨map_row (e_on (c2) hx0 (e_lt hx0)), (entry_row (e_on (c2) he0 (e_lt he0))).1⟩), ?_⟩
        simp only [Act.put, List.setIfInBounds_toArray, List.set_cons_zero, List.set_cons_succ]
        repeat (first | (refine Tree.take ?_ (by rfl) ?_ ?_; rotate_left; (· rintro w9 ⟨u0, u1⟩; go_simp; (try rw [if_neg (by omega)]); all_goals (with_reducible rfl)); simp only [Act.put, List.setIfInBounds_toArray, List.set_cons_zero, List.set_cons_succ]))
        refine Tree.only (by rfl) ?_
        refine Tree.wp_call 38 _ ?_ (HP.out _ (hb0.trans (c2.mono hb0.size))) ?_
        · go_simp
        rintro e9 w3 ⟨rfl, h3⟩
        have c3 := c2.trans (h3.mono c2.size)
        have g3 := e_on h3 g2 (e_lt g2)
        refine ⟨_, rfl, (⟨map_row (e_on (c3) hx0 (e_lt hx0)), (entry_row (e_on (c3) he0 (e_lt he0))).1⟩), ?_⟩
        simp only [Act.put, List.setIfInBounds_toArray, List.set_cons_zero, List.set_cons_succ]
        repeat (first | (refine Tree.take ?_ (by rfl) ?_ ?_; rotate_left; (· rintro w9 ⟨u0, u1⟩; go_simp; (try rw [if_neg (by omega)]); all_goals (with_reducible rfl)); simp only [Act.put, List.setIfInBounds_toArray, List.set_cons_zero, List.set_cons_succ]))
        have c4 := below_setRow c3 q1 #[.slice (some x) n c, .int .i64 ST]
        have g4 := setRow_heap w3 w0.heap.size _ #[.slice (some x) n c, .int .i64 ST] _ _ g3
        refine Tree.only (by rfl) (wp_store_row 70 _ _ rfl w0.heap.size #[.slice (some x) n c, .int .i64 ST] (by rfl) (by rfl) 70 _ g3 part_info rfl (by simp [Value.oneCell']) ⟨⟨map_row (e_on (c4) hx0 (e_lt hx0)), (entry_row (e_on (c4) he0 (e_lt he0))).1⟩, ?_⟩)
        simp only [Act.put]
        repeat (first | (refine Tree.take ?_ (by rfl) ?_ ?_; rotate_left; (· rintro w9 ⟨u0, u1⟩; go_simp; (try rw [if_neg (by omega)]); all_goals (with_reducible rfl)); simp only [Act.put, List.setIfInBounds_toArray, List.set_cons_zero, List.set_cons_succ]))
        refine Tree.ends ?_
        go_wp2_with fail
        go_meet
        exact ⟨w0.heap.size, rfl, rfl, q1, g4, c4⟩
    case rest =>
      obtain ⟨g, rfl, rfl, hg, hg1, hc1⟩ := hcut
      have hr1 := e_on hc1 hr0 (e_lt hr0)
      have hq1 := e_on hc1 hq0 (e_lt hq0)
      have he1 := e_on hc1 he0 (e_lt he0)
      have hx1 := e_on hc1 hx0 (e_lt hx0)
      have b1 := hb0.trans (hc1.mono hb0.size)
      have hs0 := e_lt hr0
      have hs1 := e_lt hr1
      rw [← hST] at hg1
      clear hST hr0 hq0 he0 hx0
      generalize wc = W1 at *
      have c0 := Below.refl W1.heap.size W1
      go_upto_region 4 with fail
      go_cut [8, 9, 10] (fun s8 s9 s10 wx => ∃ (g2 : Nat) (a3 : Option Addr) (n3 k3 : Nat), s8 = .bool MV ∧ s9 = .slice a3 n3 k3 ∧ s10 = .pointer (some ⟨g2, 0, none⟩) ∧ W1.heap.size ≤ g2 ∧ wx.heap[g2]? = some (entRow yb yk yv ym yz yo) ∧ EList wx (Plus (fun b => F b ∧ b < w.heap.size) W1.heap.size) a3 n3 k3 RL ∧ Below W1.heap.size W1 wx)
      case first =>
        refine Tree.start (fun W => (W.cell? ⟨g, 0, none⟩ = some (.slice (some x) n c) ∧ W.cell? ⟨g, 1, none⟩ = some (.int .i64 k)) ∧ Six W (w.heap.size + 1) eb ek ev em ez eo) (.take 0 (.take 2 (.fork 1 (.fork 3 (.take 4 (.take 5 (.take 6 (.take 7 (.only 8 (.take 9 (.only 10 (.take 11 (.done))))))))) 8 (.only 3 (.take 4 (.take 5 (.take 6 (.take 7 (.take 9 (.only 10 (.take 11 (.done)))))))))) 8 (.only 1 (.only 3 (.take 4 (.take 5 (.take 6 (.take 7 (.take 9 (.only 10 (.take 11 (.done))))))))))))) (by kernel_rfl) (by kernel_rfl) (by kernel_rfl) (by kernel_rfl) ⟨part_row (e_on (c0.drew) hg1 (e_lt hg1)), entry_row (e_on (c0.drew) he1 (e_lt he1))⟩ ?_
        simp only [Tree.T.map, List.getElem?_toArray, List.getElem?_cons_zero, List.getElem?_cons_succ]
        repeat (first | (refine Tree.take ?_ (by rfl) ?_ ?_; rotate_left; (· rintro w9 ⟨⟨u0, u1⟩, u2, u3, u4, u5, u6, u7⟩; go_simp; (try rw [if_neg (by omega)]); all_goals (with_reducible rfl)); simp only [Act.put, List.setIfInBounds_toArray, List.set_cons_zero, List.set_cons_succ]))
        have c9 := c0.drew
        refine Tree.fork (by rfl) (by rfl) ?_ ?_
        · refine Tree.wp_call 40 _ ?_ (HLI.out _ (b1.trans (c9.mono b1.size))) ?_
          · go_simp
          rintro e9 w1 ⟨rfl, h1⟩
          have c1 := c9.trans (h1.mono c9.size)
          refine ⟨_, rfl, ⟨part_row (e_on (c1) hg1 (e_lt hg1)), entry_row (e_on (c1) he1 (e_lt he1))⟩, ?_⟩
          simp only [Act.put, List.setIfInBounds_toArray, List.set_cons_zero, List.set_cons_succ]
          repeat (first | (refine Tree.take ?_ (by rfl) ?_ ?_; rotate_left; (· rintro w9 ⟨⟨u0, u1⟩, u2, u3, u4, u5, u6, u7⟩; go_simp; (try rw [if_neg (by omega)]); all_goals (with_reducible rfl)); simp only [Act.put, List.setIfInBounds_toArray, List.set_cons_zero, List.set_cons_succ]))
          have z1 : W1.heap.size ≤ w1.heap.size := c1.size
          refine Tree.fork (by rfl) (by rfl) ?_ ?_
          · refine Tree.wp_call 44 _ ?_ (HIN.out _ (b1.trans (c1.mono b1.size))) ?_
            · go_simp
            rintro e9 w2 ⟨a3, n3, k3, rfl, l2, h2⟩
            have c2 := c1.trans (h2.mono c1.size)
            refine ⟨_, rfl, ⟨part_row (e_on (c2) hg1 (e_lt hg1)), entry_row (e_on (c2) he1 (e_lt he1))⟩, ?_⟩
            simp only [Act.put, List.setIfInBounds_toArray, List.set_cons_zero, List.set_cons_succ]
            repeat (first | (refine Tree.take ?_ (by rfl) ?_ ?_; rotate_left; (· rintro w9 ⟨⟨u0, u1⟩, u2, u3, u4, u5, u6, u7⟩; go_simp; (try rw [if_neg (by omega)]); all_goals (with_reducible rfl)); simp only [Act.put, List.setIfInBounds_toArray, List.set_cons_zero, List.set_cons_succ]))
            have z2 : W1.heap.size ≤ w2.heap.size := c2.size
            refine Tree.only (by rfl) ?_
            have g3 : ((w2).alloc (entRow 0 0 0 0 0 0)).heap[w2.heap.size]? = some (entRow 0 0 0 0 0 0) := heap_alloc_new (w2) (entRow 0 0 0 0 0 0)
            have c3 := c2.alloc c2.size (entRow 0 0 0 0 0 0)
            refine Tree.wp_make (.pointer (some ⟨w2.heap.size, 0, none⟩)) ((w2).alloc (entRow 0 0 0 0 0 0)) ?_ ⟨⟨part_row (e_on (c3) hg1 (e_lt hg1)), entry_row (e_on (c3) he1 (e_lt he1))⟩, ?_⟩
            · go_simp
            simp only [Act.put, List.setIfInBounds_toArray, List.set_cons_zero, List.set_cons_succ]
            repeat (first | (refine Tree.take ?_ (by rfl) ?_ ?_; rotate_left; (· rintro w9 ⟨⟨u0, u1⟩, u2, u3, u4, u5, u6, u7⟩; go_simp; (try rw [if_neg (by omega)]); all_goals (with_reducible rfl)); simp only [Act.put, List.setIfInBounds_toArray, List.set_cons_zero, List.set_cons_succ]))
            have c8 := below_setRow c3 z2 #[.int .i64 yb, .int .i64 yk, .int .i64 yv, .int .i64 ym, .int .i64 yz, .int .i64 yo]
            have g8 := setRow_heap (w2.alloc (entRow 0 0 0 0 0 0)) w2.heap.size _ #[.int .i64 yb, .int .i64 yk, .int .i64 yv, .int .i64 ym, .int .i64 yz, .int .i64 yo] _ _ g3
            have l8 : EList ((w2.alloc (entRow 0 0 0 0 0 0)).setRow w2.heap.size #[.int .i64 yb, .int .i64 yk, .int .i64 yv, .int .i64 ym, .int .i64 yz, .int .i64 yo]) (Plus (fun b => F b ∧ b < w.heap.size) W1.heap.size) a3 n3 k3 RL := (l2.cut.on ((Same.alloc w2 (entRow 0 0 0 0 0 0)).trans (Same.row (r := w2.heap.size) (fun h9 => by have := h9.2; omega) #[.int .i64 yb, .int .i64 yk, .int .i64 yv, .int .i64 ym, .int .i64 yz, .int .i64 yo]))).mono (fun b _ h9 => by rcases h9.1 with h7 | h7; (· exact .inl h7); (· exact .inr (by omega)))
            refine Tree.only (by rfl) (wp_store_row 28 _ _ rfl w2.heap.size #[.int .i64 yb, .int .i64 yk, .int .i64 yv, .int .i64 ym, .int .i64 yz, .int .i64 yo] (by rfl) (by rfl) 28 _ g3 entry_info rfl (by simp [Value.oneCell']) ⟨⟨part_row (e_on (c8) hg1 (e_lt hg1)), entry_row (e_on (c8) he1 (e_lt he1))⟩, ?_⟩)
            simp only [Act.put]
            repeat (first | (refine Tree.take ?_ (by rfl) ?_ ?_; rotate_left; (· rintro w9 ⟨⟨u0, u1⟩, u2, u3, u4, u5, u6, u7⟩; go_simp; (try rw [if_neg (by omega)]); all_goals (with_reducible rfl)); simp only [Act.put, List.setIfInBounds_toArray, List.set_cons_zero, List.set_cons_succ]))
            refine Tree.ends ?_
            go_wp2_with fail
            go_meet
            exact ⟨w2.heap.size, a3, n3, k3, rfl, rfl, rfl, z2, g8, l8, c8⟩
          · have g2 : ((w1).alloc (entRow 0 0 0 0 0 0)).heap[w1.heap.size]? = some (entRow 0 0 0 0 0 0) := heap_alloc_new (w1) (entRow 0 0 0 0 0 0)
            have c2 := c1.alloc c1.size (entRow 0 0 0 0 0 0)
            refine Tree.wp_make (.pointer (some ⟨w1.heap.size, 0, none⟩)) ((w1).alloc (entRow 0 0 0 0 0 0)) ?_ ⟨⟨part_row (e_on (c2) hg1 (e_lt hg1)), entry_row (e_on (c2) he1 (e_lt he1))⟩, ?_⟩
            · go_simp
            simp only [Act.put, List.setIfInBounds_toArray, List.set_cons_zero, List.set_cons_succ]
            repeat (first | (refine Tree.take ?_ (by rfl) ?_ ?_; rotate_left; (· rintro w9 ⟨⟨u0, u1⟩, u2, u3, u4, u5, u6, u7⟩; go_simp; (try rw [if_neg (by omega)]); all_goals (with_reducible rfl)); simp only [Act.put, List.setIfInBounds_toArray, List.set_cons_zero, List.set_cons_succ]))
            have s2 : (w1.alloc (entRow 0 0 0 0 0 0)).heap.size = w1.heap.size + 1 := by simp only [World.size_alloc]
            refine Tree.only (by rfl) ?_
            refine Tree.wp_call 44 _ ?_ (HIN.out _ (b1.trans (c2.mono b1.size))) ?_
            · go_simp
            rintro e9 w3 ⟨a3, n3, k3, rfl, l3, h3⟩
            have c3 := c2.trans (h3.mono c2.size)
            have g3 := e_on h3 g2 (e_lt g2)
            refine ⟨_, rfl, ⟨part_row (e_on (c3) hg1 (e_lt hg1)), entry_row (e_on (c3) he1 (e_lt he1))⟩, ?_⟩
            simp only [Act.put, List.setIfInBounds_toArray, List.set_cons_zero, List.set_cons_succ]
            repeat (first | (refine Tree.take ?_ (by rfl) ?_ ?_; rotate_left; (· rintro w9 ⟨⟨u0, u1⟩, u2, u3, u4, u5, u6, u7⟩; go_simp; (try rw [if_neg (by omega)]); all_goals (with_reducible rfl)); simp only [Act.put, List.setIfInBounds_toArray, List.set_cons_zero, List.set_cons_succ]))
            have c8 := below_setRow c3 z1 #[.int .i64 yb, .int .i64 yk, .int .i64 yv, .int .i64 ym, .int .i64 yz, .int .i64 yo]
            have g8 := setRow_heap (w3) w1.heap.size _ #[.int .i64 yb, .int .i64 yk, .int .i64 yv, .int .i64 ym, .int .i64 yz, .int .i64 yo] _ _ g3
            have l8 : EList ((w3).setRow w1.heap.size #[.int .i64 yb, .int .i64 yk, .int .i64 yv, .int .i64 ym, .int .i64 yz, .int .i64 yo]) (Plus (fun b => F b ∧ b < w.heap.size) W1.heap.size) a3 n3 k3 RL := (l3.on (Same.row (r := w1.heap.size) (fun h9 => by rcases h9 with h9 | h9; (· have := h9.2; omega); (· omega)) #[.int .i64 yb, .int .i64 yk, .int .i64 yv, .int .i64 ym, .int .i64 yz, .int .i64 yo])).mono (fun b _ h9 => by rcases h9 with h7 | h7; (· exact .inl h7); (· exact .inr (by omega)))
            refine Tree.only (by rfl) (wp_store_row 28 _ _ rfl w1.heap.size #[.int .i64 yb, .int .i64 yk, .int .i64 yv, .int .i64 ym, .int .i64 yz, .int .i64 yo] (by rfl) (by rfl) 28 _ g3 entry_info rfl (by simp [Value.oneCell']) ⟨⟨part_row (e_on (c8) hg1 (e_lt hg1)), entry_row (e_on (c8) he1 (e_lt he1))⟩, ?_⟩)
            simp only [Act.put]
            repeat (first | (refine Tree.take ?_ (by rfl) ?_ ?_; rotate_left; (· rintro w9 ⟨⟨u0, u1⟩, u2, u3, u4, u5, u6, u7⟩; go_simp; (try rw [if_neg (by omega)]); all_goals (with_reducible rfl)); simp only [Act.put, List.setIfInBounds_toArray, List.set_cons_zero, List.set_cons_succ]))
            refine Tree.ends ?_
            go_wp2_with fail
            go_meet
            exact ⟨w1.heap.size, a3, n3, k3, rfl, rfl, rfl, z1, g8, l8, c8⟩
        · have g1 : ((W1.drew).alloc (entRow 0 0 0 0 0 0)).heap[W1.heap.size]? = some (entRow 0 0 0 0 0 0) := heap_alloc_new (W1.drew) (entRow 0 0 0 0 0 0)
          have c1 := c9.alloc c9.size (entRow 0 0 0 0 0 0)
          refine Tree.wp_make (.pointer (some ⟨W1.heap.size, 0, none⟩)) ((W1.drew).alloc (entRow 0 0 0 0 0 0)) ?_ ⟨⟨part_row (e_on (c1) hg1 (e_lt hg1)), entry_row (e_on (c1) he1 (e_lt he1))⟩, ?_⟩
          · go_simp
          simp only [Act.put, List.setIfInBounds_toArray, List.set_cons_zero, List.set_cons_succ]
          repeat (first | (refine Tree.take ?_ (by rfl) ?_ ?_; rotate_left; (· rintro w9 ⟨⟨u0, u1⟩, u2, u3, u4, u5, u6, u7⟩; go_simp; (try rw [if_neg (by omega)]); all_goals (with_reducible rfl)); simp only [Act.put, List.setIfInBounds_toArray, List.set_cons_zero, List.set_cons_succ]))
          have s1 : (W1.drew.alloc (entRow 0 0 0 0 0 0)).heap.size = W1.heap.size + 1 := by simp only [World.size_alloc]; rfl
          refine Tree.only (by rfl) ?_
          refine Tree.wp_call 40 _ ?_ (HLI.out _ (b1.trans (c1.mono b1.size))) ?_
          · go_simp
          rintro e9 w2 ⟨rfl, h2⟩
          have c2 := c1.trans (h2.mono c1.size)
          refine ⟨_, rfl, ⟨part_row (e_on (c2) hg1 (e_lt hg1)), entry_row (e_on (c2) he1 (e_lt he1))⟩, ?_⟩
          simp only [Act.put, List.setIfInBounds_toArray, List.set_cons_zero, List.set_cons_succ]
          repeat (first | (refine Tree.take ?_ (by rfl) ?_ ?_; rotate_left; (· rintro w9 ⟨⟨u0, u1⟩, u2, u3, u4, u5, u6, u7⟩; go_simp; (try rw [if_neg (by omega)]); all_goals (with_reducible rfl)); simp only [Act.put, List.setIfInBounds_toArray, List.set_cons_zero, List.set_cons_succ]))
          have g2 := e_on h2 g1 (e_lt g1)
          have s2 := h2.size
          refine Tree.only (by rfl) ?_
          refine Tree.wp_call 44 _ ?_ (HIN.out _ (b1.trans (c2.mono b1.size))) ?_
          · go_simp
          rintro e9 w3 ⟨a3, n3, k3, rfl, l3, h3⟩
          have c3 := c2.trans (h3.mono c2.size)
          have g3 := e_on h3 g2 (e_lt g2)
          refine ⟨_, rfl, ⟨part_row (e_on (c3) hg1 (e_lt hg1)), entry_row (e_on (c3) he1 (e_lt he1))⟩, ?_⟩
          simp only [Act.put, List.setIfInBounds_toArray, List.set_cons_zero, List.set_cons_succ]
          repeat (first | (refine Tree.take ?_ (by rfl) ?_ ?_; rotate_left; (· rintro w9 ⟨⟨u0, u1⟩, u2, u3, u4, u5, u6, u7⟩; go_simp; (try rw [if_neg (by omega)]); all_goals (with_reducible rfl)); simp only [Act.put, List.setIfInBounds_toArray, List.set_cons_zero, List.set_cons_succ]))
          have z1 : W1.heap.size ≤ W1.heap.size := Nat.le_refl _
          have c8 := below_setRow c3 z1 #[.int .i64 yb, .int .i64 yk, .int .i64 yv, .int .i64 ym, .int .i64 yz, .int .i64 yo]
          have g8 := setRow_heap (w3) W1.heap.size _ #[.int .i64 yb, .int .i64 yk, .int .i64 yv, .int .i64 ym, .int .i64 yz, .int .i64 yo] _ _ g3
          have l8 : EList ((w3).setRow W1.heap.size #[.int .i64 yb, .int .i64 yk, .int .i64 yv, .int .i64 ym, .int .i64 yz, .int .i64 yo]) (Plus (fun b => F b ∧ b < w.heap.size) W1.heap.size) a3 n3 k3 RL := (l3.on (Same.row (r := W1.heap.size) (fun h9 => by rcases h9 with h9 | h9; (· have := h9.2; omega); (· omega)) #[.int .i64 yb, .int .i64 yk, .int .i64 yv, .int .i64 ym, .int .i64 yz, .int .i64 yo])).mono (fun b _ h9 => by rcases h9 with h7 | h7; (· exact .inl h7); (· exact .inr (by omega)))
          refine Tree.only (by rfl) (wp_store_row 28 _ _ rfl W1.heap.size #[.int .i64 yb, .int .i64 yk, .int .i64 yv, .int .i64 ym, .int .i64 yz, .int .i64 yo] (by rfl) (by rfl) 28 _ g3 entry_info rfl (by simp [Value.oneCell']) ⟨⟨part_row (e_on (c8) hg1 (e_lt hg1)), entry_row (e_on (c8) he1 (e_lt he1))⟩, ?_⟩)
          simp only [Act.put]
          repeat (first | (refine Tree.take ?_ (by rfl) ?_ ?_; rotate_left; (· rintro w9 ⟨⟨u0, u1⟩, u2, u3, u4, u5, u6, u7⟩; go_simp; (try rw [if_neg (by omega)]); all_goals (with_reducible rfl)); simp only [Act.put, List.setIfInBounds_toArray, List.set_cons_zero, List.set_cons_succ]))
          refine Tree.ends ?_
          go_wp2_with fail
          go_meet
          exact ⟨W1.heap.size, a3, n3, k3, rfl, rfl, rfl, z1, g8, l8, c8⟩
      case rest =>
        obtain ⟨g2, a3, n3, k3, rfl, rfl, rfl, hg2, ho2, l2, hc2⟩ := hcut
        have hr2 := e_on hc2 hr1 (e_lt hr1)
        have hq2 := e_on hc2 hq1 (e_lt hq1)
        have hx2 := e_on hc2 hx1 (e_lt hx1)
        have hp2 := e_on hc2 hg1 (e_lt hg1)
        have b2 := b1.trans (hc2.mono b1.size)
        have hgl := e_lt hg1
        have hz0 := hc1.size
        clear hr1 hq1 hx1 hg1 he1
        generalize wc = W2 at *
        have HW := Lib.hid (pwith_any _ Ls (some x) n c k RL a3 n3 k3 W2.drew ((HML.out _ _ b1 hc2).on ⟨Nat.le_refl _, fun _ _ _ => rfl⟩) hst (l2.on ⟨Nat.le_refl _, fun _ _ _ => rfl⟩) hn1000)
        have hzw := hc2.size
        cases MV
        · have hRS := Lib.hid (HF.out rfl)
          clear HT HF HW l2
          go_wp2_with fail
          refine Plan.start (fun W => W.cell? ⟨w.heap.size, 0, none⟩ = some (.slice (some x) n c) ∧ Six W g2 yb yk yv ym yz yo) [(0, true), (1, true), (2, false), (3, false), (4, true)] (by kernel_rfl) (by kernel_rfl) (by kernel_rfl) (by kernel_rfl) ⟨map_row hx2, entry_row ho2⟩ ?_
          simp only [List.map_cons, List.map_nil, List.getElem?_toArray, List.getElem?_cons_zero, List.getElem?_cons_succ]
          repeat (first | (refine Plan.take ?_ (by rfl) ?_ ?_; rotate_left; (· rintro w9 ⟨u0, u1, u2, u3, u4, u5, u6⟩; go_simp; (try rw [if_neg (by omega)]); all_goals (with_reducible rfl)); simp only [Act.put, List.setIfInBounds_toArray, List.set_cons_zero, List.set_cons_succ]) | (refine Plan.pass (by rfl) ?_; simp only [Act.put, List.setIfInBounds_toArray, List.set_cons_zero, List.set_cons_succ]))
          have hx6 := (setRow_other W2.drew (w.heap.size + 2) w.heap.size #[.slice (some x) n c] (by omega)).trans (show W2.drew.heap[w.heap.size]? = _ from hx2)
          have ho6 := (setRow_other W2.drew (w.heap.size + 2) g2 #[.slice (some x) n c] (by omega)).trans (show W2.drew.heap[g2]? = _ from ho2)
          have hr6 := (setRow_other W2.drew (w.heap.size + 2) (w.heap.size + 3) #[.slice (some x) n c] (by omega)).trans (show W2.drew.heap[w.heap.size + 3]? = _ from hr2)
          refine Plan.store (by rfl) 24 (.tmp 4) (.tmp 34) rfl (w.heap.size + 2) #[.slice (some x) n c] rfl rfl 24 _ (show W2.drew.heap[w.heap.size + 2]? = _ from hq2) map_info rfl (by simp [Value.oneCell']) ⟨map_row hx6, entry_row ho6⟩ ?_
          simp only [Act.put]
          have hx7 := (setRow_other (W2.drew.setRow (w.heap.size + 2) #[.slice (some x) n c]) (w.heap.size + 3) w.heap.size #[.int .i64 yb, .int .i64 yk, .int .i64 yv, .int .i64 ym, .int .i64 yz, .int .i64 yo] (by omega)).trans hx6
          have ho7 := (setRow_other (W2.drew.setRow (w.heap.size + 2) #[.slice (some x) n c]) (w.heap.size + 3) g2 #[.int .i64 yb, .int .i64 yk, .int .i64 yv, .int .i64 ym, .int .i64 yz, .int .i64 yo] (by omega)).trans ho6
          refine Plan.store (by rfl) 28 (.tmp 5) (.tmp 35) rfl (w.heap.size + 3) #[.int .i64 yb, .int .i64 yk, .int .i64 yv, .int .i64 ym, .int .i64 yz, .int .i64 yo] rfl rfl 28 _ hr6 entry_info rfl (by simp [Value.oneCell']) ⟨map_row hx7, entry_row ho7⟩ ?_
          simp only [Act.put]
          repeat (first | (refine Plan.take ?_ (by rfl) ?_ ?_; rotate_left; (· rintro w9 ⟨u0, u1, u2, u3, u4, u5, u6⟩; go_simp; (try rw [if_neg (by omega)]); all_goals (with_reducible rfl)); simp only [Act.put, List.setIfInBounds_toArray, List.set_cons_zero, List.set_cons_succ]) | (refine Plan.pass (by rfl) ?_; simp only [Act.put, List.setIfInBounds_toArray, List.set_cons_zero, List.set_cons_succ]))
          refine Plan.ends ?_
          have hqf := (setRow_other (W2.drew.setRow (w.heap.size + 2) #[.slice (some x) n c]) (w.heap.size + 3) (w.heap.size + 2) #[.int .i64 yb, .int .i64 yk, .int .i64 yv, .int .i64 ym, .int .i64 yz, .int .i64 yo] (by omega)).trans (setRow_heap W2.drew (w.heap.size + 2) _ #[.slice (some x) n c] _ _ (show W2.drew.heap[w.heap.size + 2]? = _ from hq2))
          have hrf := setRow_heap (W2.drew.setRow (w.heap.size + 2) #[.slice (some x) n c]) (w.heap.size + 3) _ #[.int .i64 yb, .int .i64 yk, .int .i64 yv, .int .i64 ym, .int .i64 yz, .int .i64 yo] _ _ hr6
          have bf := below_setRow (below_setRow b2.drew (show w.heap.size ≤ w.heap.size + 2 by omega) #[.slice (some x) n c]) (show w.heap.size ≤ w.heap.size + 3 by omega) #[.int .i64 yb, .int .i64 yk, .int .i64 yv, .int .i64 ym, .int .i64 yz, .int .i64 yo]
          have M9 := HEND.out _ b2.drew #[.slice (some x) n c] #[.int .i64 yb, .int .i64 yk, .int .i64 yv, .int .i64 ym, .int .i64 yz, .int .i64 yo]
          generalize (W2.drew.setRow (w.heap.size + 2) #[.slice (some x) n c]).setRow (w.heap.size + 3) #[.int .i64 yb, .int .i64 yk, .int .i64 yv, .int .i64 ym, .int .i64 yz, .int .i64 yo] = w9 at *
          clear hx2 hq2 hr2 ho2 hx6 ho6 hr6 hx7 ho7
          go_wp2_with fail
          exact bodyPost_ret (results_cct (p := 4) (q := 5) (r := 6) rfl _ _ _ _ _ _ _ _ _ _ _ _ rfl rfl hqf Try.underlying24 rfl map_info hrf Try.underlying28 rfl entry_info) rfl ⟨_, _, _, rfl, by rw [hRS.out]; exact M9, bf⟩
        · have hRS := Lib.hid (HT.out rfl)
          clear HT HF
          go_wp2_with fail
          refine Plan.start (fun W => (W.cell? ⟨g, 0, none⟩ = some (.slice (some x) n c) ∧ W.cell? ⟨g, 1, none⟩ = some (.int .i64 k)) ∧ Six W g2 yb yk yv ym yz yo) [(0, true), (1, true), (3, true), (2, false), (4, false), (5, false), (6, true)] (by kernel_rfl) (by kernel_rfl) (by kernel_rfl) (by kernel_rfl) ⟨part_row hp2, entry_row ho2⟩ ?_
          simp only [List.map_cons, List.map_nil, List.getElem?_toArray, List.getElem?_cons_zero, List.getElem?_cons_succ]
          repeat (first | (refine Plan.take ?_ (by rfl) ?_ ?_; rotate_left; (· rintro w9 ⟨⟨u0, u1⟩, u2, u3, u4, u5, u6, u7⟩; go_simp; (try rw [if_neg (by omega)]); all_goals (with_reducible rfl)); simp only [Act.put, List.setIfInBounds_toArray, List.set_cons_zero, List.set_cons_succ]) | (refine Plan.pass (by rfl) ?_; simp only [Act.put, List.setIfInBounds_toArray, List.set_cons_zero, List.set_cons_succ]))
          refine Plan.call (by rfl) 41 _ ?_ HW.out ?_
          · go_simp
          rintro e9 w6 ⟨g6, c6, rfl, l6, h6⟩
          have hp6 := e_on h6 (show W2.drew.heap[g]? = _ from hp2) (e_lt hp2)
          have ho6 := e_on h6 (show W2.drew.heap[g2]? = _ from ho2) (e_lt ho2)
          have hq6 := e_on h6 (show W2.drew.heap[w.heap.size + 2]? = _ from hq2) (e_lt hq2)
          have hr6 := e_on h6 (show W2.drew.heap[w.heap.size + 3]? = _ from hr2) (e_lt hr2)
          have b6 := b2.drew.trans (h6.mono b2.drew.size)
          refine ⟨_, rfl, ⟨part_row hp6, entry_row ho6⟩, ?_⟩
          simp only [Act.put, List.setIfInBounds_toArray, List.set_cons_zero, List.set_cons_succ]
          repeat (first | (refine Plan.take ?_ (by rfl) ?_ ?_; rotate_left; (· rintro w9 ⟨⟨u0, u1⟩, u2, u3, u4, u5, u6, u7⟩; go_simp; (try rw [if_neg (by omega)]); all_goals (with_reducible rfl)); simp only [Act.put, List.setIfInBounds_toArray, List.set_cons_zero, List.set_cons_succ]) | (refine Plan.pass (by rfl) ?_; simp only [Act.put, List.setIfInBounds_toArray, List.set_cons_zero, List.set_cons_succ]))
          have hp7 := (setRow_other w6 (w.heap.size + 2) g #[.slice (some ⟨g6, 0, none⟩) n c6] (by omega)).trans hp6
          have ho7 := (setRow_other w6 (w.heap.size + 2) g2 #[.slice (some ⟨g6, 0, none⟩) n c6] (by omega)).trans ho6
          have hr7 := (setRow_other w6 (w.heap.size + 2) (w.heap.size + 3) #[.slice (some ⟨g6, 0, none⟩) n c6] (by omega)).trans hr6
          refine Plan.store (by rfl) 24 (.tmp 4) (.tmp 38) rfl (w.heap.size + 2) #[.slice (some ⟨g6, 0, none⟩) n c6] rfl rfl 24 _ hq6 map_info rfl (by simp [Value.oneCell']) ⟨part_row hp7, entry_row ho7⟩ ?_
          simp only [Act.put]
          have hp8 := (setRow_other (w6.setRow (w.heap.size + 2) #[.slice (some ⟨g6, 0, none⟩) n c6]) (w.heap.size + 3) g #[.int .i64 yb, .int .i64 yk, .int .i64 yv, .int .i64 ym, .int .i64 yz, .int .i64 yo] (by omega)).trans hp7
          have ho8 := (setRow_other (w6.setRow (w.heap.size + 2) #[.slice (some ⟨g6, 0, none⟩) n c6]) (w.heap.size + 3) g2 #[.int .i64 yb, .int .i64 yk, .int .i64 yv, .int .i64 ym, .int .i64 yz, .int .i64 yo] (by omega)).trans ho7
          refine Plan.store (by rfl) 28 (.tmp 5) (.tmp 39) rfl (w.heap.size + 3) #[.int .i64 yb, .int .i64 yk, .int .i64 yv, .int .i64 ym, .int .i64 yz, .int .i64 yo] rfl rfl 28 _ hr7 entry_info rfl (by simp [Value.oneCell']) ⟨part_row hp8, entry_row ho8⟩ ?_
          simp only [Act.put]
          repeat (first | (refine Plan.take ?_ (by rfl) ?_ ?_; rotate_left; (· rintro w9 ⟨⟨u0, u1⟩, u2, u3, u4, u5, u6, u7⟩; go_simp; (try rw [if_neg (by omega)]); all_goals (with_reducible rfl)); simp only [Act.put, List.setIfInBounds_toArray, List.set_cons_zero, List.set_cons_succ]) | (refine Plan.pass (by rfl) ?_; simp only [Act.put, List.setIfInBounds_toArray, List.set_cons_zero, List.set_cons_succ]))
          refine Plan.ends ?_
          have hqf := (setRow_other (w6.setRow (w.heap.size + 2) #[.slice (some ⟨g6, 0, none⟩) n c6]) (w.heap.size + 3) (w.heap.size + 2) #[.int .i64 yb, .int .i64 yk, .int .i64 yv, .int .i64 ym, .int .i64 yz, .int .i64 yo] (by omega)).trans (setRow_heap w6 (w.heap.size + 2) _ #[.slice (some ⟨g6, 0, none⟩) n c6] _ _ hq6)
          have hrf := setRow_heap (w6.setRow (w.heap.size + 2) #[.slice (some ⟨g6, 0, none⟩) n c6]) (w.heap.size + 3) _ #[.int .i64 yb, .int .i64 yk, .int .i64 yv, .int .i64 ym, .int .i64 yz, .int .i64 yo] _ _ hr7
          have bf := below_setRow (below_setRow b6 (show w.heap.size ≤ w.heap.size + 2 by omega) #[.slice (some ⟨g6, 0, none⟩) n c6]) (show w.heap.size ≤ w.heap.size + 3 by omega) #[.int .i64 yb, .int .i64 yk, .int .i64 yv, .int .i64 ym, .int .i64 yz, .int .i64 yo]
          have hN : ∀ b, Plus (Plus (fun b => F b ∧ b < w.heap.size) W1.heap.size) W2.drew.heap.size b → b ≠ w.heap.size + 2 ∧ b ≠ w.heap.size + 3 ∧ Plus F w.heap.size b := fun b h => by
            have h7 : W2.drew.heap.size = W2.heap.size := rfl
            rcases h with (h | h) | h
            · exact ⟨by have := h.2; omega, by have := h.2; omega, .inl h.1⟩
            · exact ⟨by omega, by omega, .inr (by omega)⟩
            · exact ⟨by omega, by omega, .inr (by omega)⟩
          have M9 := ((l6.on (Same.row (r := w.heap.size + 2) (fun h9 => (hN _ h9).1 rfl) #[.slice (some ⟨g6, 0, none⟩) n c6])).on (Same.row (r := w.heap.size + 3) (fun h9 => (hN _ h9).2.1 rfl) #[.int .i64 yb, .int .i64 yk, .int .i64 yv, .int .i64 ym, .int .i64 yz, .int .i64 yo])).mono (G := Plus F w.heap.size) (fun b _ h9 => (hN b h9).2.2)
          generalize (w6.setRow (w.heap.size + 2) #[.slice (some ⟨g6, 0, none⟩) n c6]).setRow (w.heap.size + 3) #[.int .i64 yb, .int .i64 yk, .int .i64 yv, .int .i64 ym, .int .i64 yz, .int .i64 yo] = w9 at *
          clear hx2 hq2 hr2 ho2 hp2 ho6 hq6 hr6 hp6 hp7 ho7 hr7 hp8 ho8 l6 l2
          go_wp2_with fail
          exact bodyPost_ret (results_cct (p := 4) (q := 5) (r := 6) rfl _ _ _ _ _ _ _ _ _ _ _ _ rfl rfl hqf Try.underlying24 rfl map_info hrf Try.underlying28 rfl entry_info) rfl ⟨_, _, _, rfl, by rw [hRS.out]; exact M9, bf⟩
end Go.Proofs.Ytljobnfilnbefaa.Ents

/- The walk of the program's New of a map; the program keeps what is asked. -/
namespace Go.Proofs.Ytljobnfilnbefaa.Ents
open Go.RowKit Plan EntMath
set_option maxHeartbeats 2000000 in
set_option maxRecDepth 20000 in
theorem mnew_any (s : Int) (w : World) : Calls Try.prog 12 #[.int .i64 s] w fun r w' => ∃ a n c, r = .returned (.tuple #[mapV a n c, .int .i64 (newME s)]) ∧ MList w' (fun b => w.heap.size ≤ b) a n c (newM s) ∧ Below w.heap.size w w' := by
  have hA := (Below.refl w.heap.size w).alloc (Nat.le_refl _) (mapRow none 0 0)
  have hr0 := heap_alloc_new w (mapRow none 0 0)
  have HP := Lib.hid (mpossible_any s)
  by_cases hs : 1 ≤ s ∧ s ≤ 8
  · have h1 : newM s = List.replicate s.toNat [] := if_pos hs
    have h2 : newME s = 0 := if_pos hs
    rw [decide_eq_true hs] at HP
    obtain ⟨n, rfl⟩ : ∃ n : Nat, s = (n : Int) := ⟨s.toNat, by omega⟩
    rw [Int.toNat_natCast] at h1
    have hmk := fun w => run_make_row' (P := Try.prog) 22 49 (.slice none 0 0) 24 Try.underlying22 sl_row rfl .i64 .i64 n (by omega) (by omega) w
    have hr1 := e_al hr0 (.cells (madeCells #[(.slice none 0 0 : Value)] n) 49)
    have hB := hA.alloc hA.size (.cells (madeCells #[(.slice none 0 0 : Value)] n) 49)
    have hrow := World.rowIs_made (w.alloc (mapRow none 0 0)) (.slice none 0 0) n 49
    rw [World.size_alloc] at hrow
    have HROW := Lib.hid hrow
    have H1 := Lib.hid h1
    have H2 := Lib.hid h2
    clear hrow h1 h2
    go_enter Try.func12, Try.ntmps12
    go_wp2_with (first
      | (go_at_call 34; ((with_reducible refine (HP.out _).mono ?_); rintro e9 w1 ⟨rfl, rfl⟩))
      | ((with_reducible refine Plan.store_lit 24 (.tmp 2) _ w.heap.size ?_ hr1 ?_ ?_ ?_ ?_ ?_ ?_); rotate_left; (· rfl); (· rfl); (· exact map_info); (· rfl); (· simp [Value.oneCell']); simp only [Act.put]))
    refine bodyPost_ret (Plan.results_cell_tmp (p := 2) (q := 3) rfl _ _ _ _ _ _ _ rfl (setRow_heap _ _ _ _ _ _ hr1) Try.underlying24 rfl map_info) rfl ⟨_, _, _, by rw [H2.out]; rfl, ?_, below_setRow hB (Nat.le_refl _) _⟩
    rw [H1.out]
    have hn : n ≤ maxLen := by unfold maxLen; omega
    have hR := HROW.out.of_block (setRow_other ((w.alloc (mapRow none 0 0)).alloc (.cells (madeCells #[(.slice none 0 0 : Value)] n) 49)) w.heap.size (w.heap.size + 1) #[.slice (some ⟨w.heap.size + 1, 0, none⟩) n n] (by omega))
    refine .inr ⟨_, rfl, Nat.le_refl _, hn, by simp, hR.lt, by show w.heap.size ≤ w.heap.size + 1; omega, fun i L hi => ?_⟩
    have hin := (List.getElem?_eq_some_iff.1 hi).1
    rw [List.length_replicate] at hin
    rw [List.getElem?_replicate, if_pos hin] at hi
    obtain rfl := Option.some.inj hi
    exact ⟨none, 0, 0, by rw [Addr.add_lit, Nat.zero_add]; exact hR.cell hin, EList.nil _ _⟩
  · have h1 : newM s = [] := if_neg hs
    have h2 : newME s = 1 := if_neg hs
    rw [decide_eq_false hs] at HP
    have H1 := Lib.hid h1
    have H2 := Lib.hid h2
    clear h1 h2
    go_enter Try.func12, Try.ntmps12
    go_wp2_with (first
      | (go_at_call 34; ((with_reducible refine (HP.out _).mono ?_); rintro e9 w1 ⟨rfl, rfl⟩))
      | ((with_reducible refine Plan.store_lit 24 (.tmp 2) _ w.heap.size ?_ hr0 ?_ ?_ ?_ ?_ ?_ ?_); rotate_left; (· rfl); (· rfl); (· exact map_info); (· rfl); (· simp [Value.oneCell']); simp only [Act.put]))
    exact bodyPost_ret (Plan.results_cell_tmp (p := 2) (q := 3) rfl _ _ _ _ _ _ _ rfl (setRow_heap _ _ _ _ _ _ hr0) Try.underlying24 rfl map_info) rfl ⟨_, _, _, by rw [H2.out]; rfl, by rw [H1.out]; exact MList.nil _ _, below_setRow hA (Nat.le_refl _) _⟩
theorem mapOk : MapOk where
  new := mnew_any
  valid := fun F Ls a n c w hl _ => mvalid_any F Ls a n c w hl
  stripe := fun F Ls b a n c w hl => stripe_any F Ls b a n c w hl
  lookup := fun F Ls b a n c w hl hm => mlookup_any F Ls b a n c w hl hm
  install := fun F Ls e a n c w _ hl hm => minstall_any F Ls e a n c w hl hm
  relocate := fun F Ls b v fz fo tz tq m a n c w _ hl hm => mrelocate_any F Ls b v fz fo tz tq m a n c w hl hm
  drop := fun F Ls i cut a n c w _ hl hm => mdrop_any F Ls i cut a n c w hl hm
  all := fun F Ls a n c w _ hl hm => mall_any F Ls a n c w hl hm
end Go.Proofs.Ytljobnfilnbefaa.Ents

/- Two maps in two boxes beside the dice: what L2pShards keeps to. -/
namespace Go.Proofs.Ytljobnfilnbefaa.Ents
open Go.RowKit Plan EntMath
abbrev TF (B A A2 : Nat) : Nat → Prop := fun b => B ≤ b ∧ b ≠ A ∧ b ≠ A2
/-- two maps in two boxes, and the dice -/
structure Two (W W0 : World) (B A A2 base g : Nat) (L : List Int) (k : Nat) (a : Option Addr) (n c : Nat) (Ls : List (List Ent)) (a2 : Option Addr) (n2 c2 : Nat) (Ms : List (List Ent)) : Prop where
  m : W.heap[A]? = some (mapRow a n c)
  m2 : W.heap[A2]? = some (mapRow a2 n2 c2)
  l : MList W (TF B A A2) a n c Ls
  l2 : MList W (TF B A A2) a2 n2 c2 Ms
  d : Dice W base g L k
  b : Below base W0 W
section
variable {W W0 : World} {B A A2 base g : Nat} {L : List Int} {k n c n2 c2 : Nat} {a a2 : Option Addr} {Ls Ms : List (List Ent)}
theorem Two.on (h : Two W W0 B A A2 base g L k a n c Ls a2 n2 c2 Ms) {W' : World} (hb : Below W.heap.size W W') : Two W' W0 B A A2 base g L k a n c Ls a2 n2 c2 Ms :=
  ⟨e_on hb h.m (e_lt h.m), e_on hb h.m2 (e_lt h.m2), h.l.on (Same.below hb), h.l2.on (Same.below hb), dice_on h.d hb (Nat.le_refl _), h.b.trans (hb.mono (Nat.le_trans (dice_base h.d) (Nat.le_of_lt (dice_lt h.d))))⟩
theorem Two.al (h : Two W W0 B A A2 base g L k a n c Ls a2 n2 c2 Ms) (o : Obj) : Two (W.alloc o) W0 B A A2 base g L k a n c Ls a2 n2 c2 Ms := h.on ((Below.refl _ _).alloc (Nat.le_refl _) o)
theorem Two.dr (h : Two W W0 B A A2 base g L k a n c Ls a2 n2 c2 Ms) : Two W.drew W0 B A A2 base g L k a n c Ls a2 n2 c2 Ms :=
  ⟨h.m, h.m2, h.l.on ⟨Nat.le_refl _, fun _ _ _ => rfl⟩, h.l2.on ⟨Nat.le_refl _, fun _ _ _ => rfl⟩, dice_drew h.d, h.b.drew⟩
theorem Two.next (h : Two W W0 B A A2 base g L k a n c Ls a2 n2 c2 Ms) (hg : g < B ∧ B ≤ A ∧ B ≤ A2) {W' : World} {k' : Nat} (hd : Dice W' base g L k') (hw : W.grownBy W' (some g)) : Two W' W0 B A A2 base g L k' a n c Ls a2 n2 c2 Ms :=
  have hs : Same (TF B A A2) W W' := ⟨hw.size, fun b hb hl => hw.block b hl (fun e => by have h8 := Option.some.inj e; have := hb.1; omega)⟩
  ⟨ent_row_grown hw h.m (by omega), ent_row_grown hw h.m2 (by omega), h.l.on hs, h.l2.on hs, hd, h.b.grown hw (Nat.le_trans (dice_base h.d) (Nat.le_of_lt (dice_lt h.d))) (fun z hz => by obtain rfl := Option.some.inj hz; exact dice_base hd)⟩
theorem Two.one (h : Two W W0 B A A2 base g L k a n c Ls a2 n2 c2 Ms) (hg : g < B ∧ B ≤ A ∧ B ≤ A2) (hne : A ≠ A2) {W' : World} (hb : Below W.heap.size W W') {a' : Option Addr} {n' c' : Nat} {Ls' : List (List Ent)} (hl : MList W' (Plus (TF B A A2) W.heap.size) a' n' c' Ls') :
    Two (W'.setRow A #[.slice a' n' c']) W0 B A A2 base g L k a' n' c' Ls' a2 n2 c2 Ms := by
  have h' := h.on hb
  have l1 := e_lt h.m
  have l2 := e_lt h.m2
  have hbs := dice_base h.d
  exact ⟨setRow_heap _ _ _ _ _ _ h'.m, (setRow_other _ _ _ _ (fun e => hne e.symm)).trans h'.m2,
    (hl.mono (G := TF B A A2) (fun b _ h9 => by rcases h9 with h9 | h9; (· exact h9); (· exact ⟨by omega, by omega, by omega⟩))).on (Same.row (r := A) (fun h9 => h9.2.1 rfl) _), h'.l2.on (Same.row (r := A) (fun h9 => h9.2.1 rfl) _), dice_far h'.d (sm_setRow W' A _) (by omega), below_setRow h'.b (by omega) _⟩
theorem Two.two (h : Two W W0 B A A2 base g L k a n c Ls a2 n2 c2 Ms) (hg : g < B ∧ B ≤ A ∧ B ≤ A2) (hne : A ≠ A2) {W' : World} (hb : Below W.heap.size W W') {a' : Option Addr} {n' c' : Nat} {Ms' : List (List Ent)} (hl : MList W' (Plus (TF B A A2) W.heap.size) a' n' c' Ms') :
    Two (W'.setRow A2 #[.slice a' n' c']) W0 B A A2 base g L k a n c Ls a' n' c' Ms' := by
  have h' := h.on hb
  have l1 := e_lt h.m
  have l2 := e_lt h.m2
  have hbs := dice_base h.d
  exact ⟨(setRow_other _ _ _ _ hne).trans h'.m, setRow_heap _ _ _ _ _ _ h'.m2, h'.l.on (Same.row (r := A2) (fun h9 => h9.2.2 rfl) _),
    (hl.mono (G := TF B A A2) (fun b _ h9 => by rcases h9 with h9 | h9; (· exact h9); (· exact ⟨by omega, by omega, by omega⟩))).on (Same.row (r := A2) (fun h9 => h9.2.2 rfl) _), dice_far h'.d (sm_setRow W' A2 _) (by omega), below_setRow h'.b (by omega) _⟩
end
theorem u8_eight {u : Int} (h : (Lit.int .u8 u).wf = true) : wrap64 u = u ∧ (0 ≤ u ∧ u ≤ 255) ∧ ∃ P : Int, u.tmod 8 = P ∧ 0 ≤ P ∧ P ≤ 7 := by
  have h1 : 0 ≤ u ∧ u ≤ 255 := by
    simp [Lit.wf, IntKind.min, IntKind.max, IntKind.signed, IntKind.bits] at h
    omega
  refine ⟨by unfold wrap64; omega, h1, _, rfl, ?_⟩
  rw [Int.tmod_eq_emod_of_nonneg h1.1]
  omega
theorem newM_some {P : Int} (h : 0 ≤ P ∧ P ≤ 7) : ∃ n : Nat, 1 ≤ n ∧ n ≤ 8 ∧ newM (1 + P) = List.replicate n [] ∧ newME (1 + P) = 0 := by
  refine ⟨(1 + P).toNat, by omega, by omega, ?_, ?_⟩
  · unfold newM; rw [if_pos (by omega)]
  · unfold newME; rw [if_pos (by omega)]
theorem reloc_set_len (L : List Ent) (b v fz fo tz tq m : Int) : (relocL L b v fz fo tz tq m).length ≤ L.length := by
  unfold relocL
  split
  · rename_i hv
    split
    · split
      · exact Nat.le_refl _
      · rename_i x hx
        have hb := look_block hx
        rw [← ins_set (moved x tz tq m) x (by show lookE L x.block = some x; rw [hb]; exact hx) (valid_iff.1 hv).2, List.length_set]
        exact Nat.le_refl _
    · exact Nat.le_refl _
  · exact Nat.zero_le _
theorem getD_len (Ls : List (List Ent)) (i : Nat) (M : List Ent) (h : M.length ≤ (Ls.getD i []).length) : ((Ls.set i M).flatten).length ≤ Ls.flatten.length := by
  have := flat_set Ls i M
  omega
theorem relocM_flat (Ls : List (List Ent)) (b v fz fo tz tq m : Int) : ((relocM Ls b v fz fo tz tq m).flatten).length ≤ Ls.flatten.length := by
  unfold relocM
  split
  · exact getD_len _ _ _ (reloc_set_len ..)
  · exact Nat.le_refl _
theorem stay_len (L : List Ent) (cut : Int) : (stayL L cut).length ≤ L.length := by
  unfold stayL
  split
  · exact List.length_filter_le _ _
  · simp
theorem dropM_flat (Ls : List (List Ent)) (i cut : Int) : ((dropM Ls i cut).flatten).length ≤ Ls.flatten.length := by
  unfold dropM
  split
  · exact Nat.le_refl _
  · exact getD_len _ _ _ (stay_len ..)
theorem drops_flat (Ls : List (List Ent)) (cut : Int) (k : Nat) : ((dropsM Ls cut k).flatten).length ≤ Ls.flatten.length := by
  induction k with
  | zero => exact Nat.le_refl _
  | succ k ih => exact Nat.le_trans (dropM_flat _ _ _) ih
theorem three_ways (N : Int) : ((N == 0) = true) ∨ ((N == 0) = false ∧ (N == 1) = true) ∨ ((N == 0) = false ∧ (N == 1) = false) := by
  cases N == 0 <;> cases N == 1 <;> simp
theorem look_vars {f : FuncId} {args : Array Value} {w : World} {Ls : List (List Ent)} {b : Int} (h : Calls Try.prog f args w fun r w' => r = .returned (lookV Ls b) ∧ Below w.heap.size w w') :
    Calls Try.prog f args w fun r w' => ∃ (xb xk xv xm xz xo : Int) (th : Bool), r = .returned (.tuple #[.agg #[.int .i64 xb, .int .i64 xk, .int .i64 xv, .int .i64 xm, .int .i64 xz, .int .i64 xo], .bool th]) ∧ Below w.heap.size w w' :=
  h.mono fun _ _ h => ⟨_, _, _, _, _, _, _, h.1, h.2⟩
end Go.Proofs.Ytljobnfilnbefaa.Ents

/- The walk of L2pShards. -/
namespace Go.Proofs.Ytljobnfilnbefaa.Ents
open Go.RowKit Plan EntMath
set_option maxHeartbeats 16000000 in
set_option maxRecDepth 20000 in
theorem mapShards_any (sa : Option Addr) (len cap : Nat) (zs : List Int) (u v : Int) (w : World) (hrow : IsRow .i64 w sa len cap zs) (hu : (Lit.int .u8 u).wf = true) (hv : (Lit.int .u8 v).wf = true) :
    Calls Try.prog 5 #[.slice sa len cap, .int .u8 u, .int .u8 v] w fun r w' => r = .returned (.bool true) ∧ Below w.heap.size w w' := by
  have hli := light_any sa len cap w
  have HAW := Lib.hid (fun W => mapAwake_any mapOk W)
  by_cases hlen : (len : Int) ≤ 300
  · rw [decide_eq_true hlen] at hli
    have hro := roll_any sa len cap zs w hrow (by omega)
    have hzl : (zs.take len).length ≤ 100000 := by rw [List.length_take]; omega
    generalize zs.take len = L at hro hzl
    unfold RollPost at hro
    have HR := Lib.hid hro
    have HLI := Lib.hid hli
    obtain ⟨ku, u0, PU, eu, pu⟩ := u8_eight hu
    obtain ⟨kv, v0, PV, ev, pv⟩ := u8_eight hv
    obtain ⟨nu, nu1, nu8, du, fu⟩ := newM_some pu
    obtain ⟨nv, nv1, nv8, dv, fv⟩ := newM_some pv
    have HNU := mnew_any (1 + PU)
    have HNV := mnew_any (1 + PV)
    rw [du, fu] at HNU
    rw [dv, fv] at HNV
    have HN1 := Lib.hid HNU
    have HN2 := Lib.hid HNV
    have HTW := Lib.hid (Twin.made nu1 nu8 nv1 nv8)
    have hfu : (List.replicate nu ([] : List Ent)).flatten.length = 0 := by simp
    have hfv : (List.replicate nv ([] : List Ent)).flatten.length = 0 := by simp
    have hwu : wrap64 (1 + PU) = 1 + PU := by unfold wrap64; omega
    have hwv : wrap64 (1 + PV) = 1 + PV := by unfold wrap64; omega
    generalize List.replicate nu ([] : List Ent) = LU at *
    generalize List.replicate nv ([] : List Ent) = LV at *
    clear hli hro HNU HNV du fu dv fv
    go_enter Try.func5, Try.ntmps5
    go_wp2_with (first
      | (go_at_call 10; ((with_reducible refine HLI.out.mono ?_); rintro e w0 ⟨rfl, rfl⟩))
      | (go_at_call 11; ((with_reducible refine HR.out.mono ?_); rintro e w1 ⟨g, rfl, hd1, hb1⟩))
      | (go_at_call 12; ((with_reducible refine (HN1.out _).mono ?_); rintro r9 w2 ⟨a2, n2, c2, rfl, l2, h2⟩; have b2 := (hb1.trans (h2.mono hb1.size)).alloc (hb1.trans (h2.mono hb1.size)).size (mapRow a2 n2 c2); have l2 := l2.cut.on (Same.alloc w2 (mapRow a2 n2 c2)); have m2 := heap_alloc_new w2 (mapRow a2 n2 c2); have d2 := dice_on (dice_on hd1 h2 (Nat.le_refl _)) ((Below.refl _ _).alloc (Nat.le_refl _) (mapRow a2 n2 c2)) (Nat.le_refl _)))
      | (go_at_call 12; ((with_reducible refine (HN2.out _).mono ?_); rintro r9 w3 ⟨a3, n3, c3, rfl, l3, h3⟩; have b3 := (b2.trans (h3.mono b2.size)).alloc (b2.trans (h3.mono b2.size)).size (mapRow a3 n3 c3); have l2 := (l2.on (Same.below h3)).on (Same.alloc w3 (mapRow a3 n3 c3)); have l3 := l3.cut.on (Same.alloc w3 (mapRow a3 n3 c3)); have m3 := e_al (e_on h3 m2 (e_lt m2)) (mapRow a3 n3 c3); have m4 := heap_alloc_new w3 (mapRow a3 n3 c3); have d3 := dice_on (dice_on d2 h3 (Nat.le_refl _)) ((Below.refl _ _).alloc (Nat.le_refl _) (mapRow a3 n3 c3)) (Nat.le_refl _); have z2 := h2.size; have z3 := h3.size; simp only [World.size_alloc] at z3; clear m2)))
    have hgB : g < w1.heap.size ∧ w1.heap.size ≤ w2.heap.size ∧ w1.heap.size ≤ w3.heap.size := ⟨dice_lt hd1, by omega, by omega⟩
    have hne : w2.heap.size ≠ w3.heap.size := by omega
    have S0 : Two (w3.alloc (mapRow a3 n3 c3)) w w1.heap.size w2.heap.size w3.heap.size w.heap.size g L 0 a2 n2 c2 LU a3 n3 c3 LV :=
      ⟨m3, m4, l2.mono (fun b _ h9 => ⟨h9.1, by have := h9.2; omega, by have := h9.2; omega⟩), l3.mono (fun b _ h9 => by have h7 := h9.1; simp only [World.size_alloc] at h7; exact ⟨by omega, by omega, by have := h9.2; omega⟩), d3, b3⟩
    generalize hBB : w1.heap.size = B at *
    generalize hAA : w2.heap.size = A at *
    generalize hA2 : w3.heap.size = A2 at *
    generalize hW3 : w3.alloc (mapRow a3 n3 c3) = w4 at *
    clear hW3 hA2 hAA hBB m3 m4 l2 l3 d3 b3 d2 b2 hd1 h2 h3 z2 z3 hb1
    have hAW : g ≠ A := by omega
    go_wp2_with fail
    go_loopw [12] (fun x wr => ∃ (j k : Nat) (a : Option Addr) (n c : Nat) (Ls : List (List Ent)) (a2 : Option Addr) (n2 c2 : Nat) (Ms : List (List Ent)), x = .int .i64 (j : Int) ∧ j ≤ 40 ∧ k ≤ 8 * j ∧ Two wr w B A A2 w.heap.size g L k a n c Ls a2 n2 c2 Ms ∧ RowKit.Hid (EntMath.Twin Ls Ms) ∧ Ls.flatten.length ≤ j ∧ Ms.flatten.length ≤ j) (fun x _ => 40 - (intOf x).toNat)
    case atStart => exact ⟨0, 0, a2, n2, c2, LU, a3, n3, c3, LV, rfl, by omega, by omega, S0, HTW, by omega, by omega⟩
    case round =>
      clear S0 HTW hfu hfv
      obtain ⟨j, k, a, n, c, Ls, a2, n2, c2, Ms, rfl, hj, hk, S, HT, hf1, hf2⟩ := hrel
      have HNEX := Lib.hid (fun W k m (h1 : 1 ≤ m) (h2 : m ≤ 4611686018427387904) (hd : Dice W w.heap.size g L k) => next_any W w.heap.size g L k m hd hzl h1 h2)
      have HRS := Lib.hid (rest_dice wr w.heap.size g L k S.d hzl (by omega))
      have HENT := Lib.hid (fun W (hd : Dice W w.heap.size g L k) => rolled9_any W w.heap.size g L k hd hzl)
      have HVA := Lib.hid (fun W (S : Two W w B A A2 w.heap.size g L k a n c Ls a2 n2 c2 Ms) => mvalid_any _ Ls a n c W S.l)
      have HVB := Lib.hid (fun W (S : Two W w B A A2 w.heap.size g L k a n c Ls a2 n2 c2 Ms) => mvalid_any _ Ms a2 n2 c2 W S.l2)
      rw [HT.out.one] at HVA
      rw [HT.out.two] at HVB
      unfold NextPost at HNEX
      have hrest : max (0 : Int) ((L.length : Int) - (k : Int)) = 0 ∨ 0 < max (0 : Int) ((L.length : Int) - (k : Int)) := by omega
      generalize max (0 : Int) ((L.length : Int) - (k : Int)) = RR at *
      by_cases hlt : j < 40
      · have hjI : (j : Int) < 40 := by omega
        have hjd : decide ((j : Int) < 40) = true := by simp; omega
        rcases hrest with hz | hz
        · have hzd : decide ((0 : Int) < RR) = false := by simp; omega
          have S4 := S.dr
          clear S
          generalize wr.drew = wd at *
          go_wp2_with (first
            | (go_at_call 16; ((with_reducible refine HRS.out.mono ?_); rintro r9 w2 ⟨rfl, rfl⟩))
            | ((with_reducible refine load_lit_gm 24 (.tmp 8) A ?_ ?_ S4.m Try.underlying24 ?_ ?_ ?_); (· rfl); (· rfl); (· rfl); (· exact map_info); simp only [Act.put, List.setIfInBounds_toArray, List.set_cons_zero, List.set_cons_succ])
            | (go_at_call 27; ((with_reducible refine (HVA.out _ S4).mono ?_); rintro r9 w5 ⟨rfl, h5⟩; have S5 := S4.on h5; clear S4 h5))
            | ((with_reducible refine load_lit_gm 24 (.tmp 10) A2 ?_ ?_ S5.m2 Try.underlying24 ?_ ?_ ?_); (· rfl); (· rfl); (· rfl); (· exact map_info); simp only [Act.put, List.setIfInBounds_toArray, List.set_cons_zero, List.set_cons_succ])
            | (go_at_call 27; ((with_reducible refine (HVB.out _ S5).mono ?_); rintro r9 w6 ⟨rfl, h6⟩; have S6 := S5.on h6; clear S5 h6))
            | (go_at_call 9; ((with_reducible refine (HAW.out _).mono ?_); rintro r9 w99 ⟨rfl, h99⟩)))
          go_ret
          exact ⟨rfl, S6.b.trans (h99.mono S6.b.size)⟩
        · have hzd : decide ((0 : Int) < RR) = true := by simpa using hz
          have S4 := S.dr
          clear S
          generalize wr.drew = wd at *
          have HLK := Lib.hid (fun W b (S : Two W w B A A2 w.heap.size g L (stp L (stp5 L k)) a n c Ls a2 n2 c2 Ms) => look_vars (mlookup_any _ Ls b a n c W S.l (fun _ => by omega)))
          go_wp2_with (first
            | (go_at_call 16; ((with_reducible refine HRS.out.mono ?_); rintro r9 w2 ⟨rfl, rfl⟩))
            | (go_at_call 17; ((with_reducible refine (HENT.out _ S4.d).mono ?_); rintro r9 w5 ⟨eb, ek, ev, em, ez, eo, rfl, ok5, q5, q6, hd5, hg5⟩; have S5 := (S4.next hgB hd5 hg5).al (entRow eb ek ev em ez eo); have e5 := heap_alloc_new w5 (entRow eb ek ev em ez eo); have E1A : A < w5.heap.size ∧ A2 < w5.heap.size := ⟨e_lt (S4.next hgB hd5 hg5).m, e_lt (S4.next hgB hd5 hg5).m2⟩; have r5 : w5.heap.size ≠ g := (by have := dice_lt hd5; omega); clear S4 hd5 hg5 q6))
            | (go_at_call 19; ((with_reducible refine (HNEX.out _ _ 5 (by decide) (by decide) S5.d).mono ?_); rintro r9 w6 ⟨rfl, hd6, hg6, hs6⟩; have S6 := S5.next hgB hd6 hg6; have e6 := ent_row_grown hg6 e5 r5; generalize w5.heap.size = E1 at *; generalize nxt L (stp5 L k) 5 = N at *; obtain ⟨c0, c1, c2', c3', c4, c5⟩ := entry_row e6; clear S5 e5 hd6 hg6 hs6 r5; rcases three_ways N with t0 | ⟨t0, t1⟩ | ⟨t0, t1⟩))
            | (go_at_call 19; ((with_reducible refine (HNEX.out _ _ 30 (by decide) (by decide) S6.d).mono ?_); rintro r9 w7 ⟨rfl, hd7, hg7, hs7⟩; have S7 := S6.next hgB hd7 hg7; generalize nxt L (stp L (stp5 L k)) 30 = CUT at *; clear S6 e6 hd7 hg7 hs7 c0 c1 c2' c3' c4 c5))
            | ((with_reducible refine Plan.load_lit 24 (.tmp 8) A ?_ S6.m Try.underlying24 ?_ ?_ ?_); (· rfl); (· rfl); (· exact map_info); simp only [Act.put, List.setIfInBounds_toArray, List.set_cons_zero, List.set_cons_succ])
            | (go_at_call 22; ((with_reducible refine (HLK.out _ eb S6).mono ?_); rintro r9 w7 ⟨xb, xk, xv, xm, xz, xo, th, rfl, h7⟩; have S7 := (S6.on h7).al (entRow xb xk xv xm xz xo); have y7 := heap_alloc_new w7 (entRow xb xk xv xm xz xo); have e7 := e_al (e_on h7 e6 (e_lt e6)) (entRow xb xk xv xm xz xo); have E2lt : E1 < w7.heap.size := (e_lt (e_on h7 e6 (e_lt e6))); clear c0 c1 c2' c3' c4 c5; obtain ⟨c0, c1, c2', c3', c4, c5⟩ := entry_row e7; obtain ⟨v0', v1, v2, v3, v4, v5⟩ := entry_row y7; have HRA := Lib.hid (fun W (S : Two W w B A A2 w.heap.size g L (stp L (stp5 L k)) a n c Ls a2 n2 c2 Ms) => mrelocate_any _ Ls eb xv xz xo ez eo 2 a n c W S.l (fun _ => by omega)); unfold RelMPost at HRA; clear S6 e6 h7))
            | ((with_reducible refine Plan.load_lit 24 (.tmp 8) A ?_ S7.m Try.underlying24 ?_ ?_ ?_); (· rfl); (· rfl); (· exact map_info); simp only [Act.put, List.setIfInBounds_toArray, List.set_cons_zero, List.set_cons_succ])
            | (go_at_call 23; ((with_reducible refine (HRA.out _ S7).mono ?_); rintro r9 w8 ⟨a8, n8, k8, rfl, l8, h8⟩; have m8 := (S7.on h8).m))
            | ((with_reducible refine Plan.store_lit 24 (.tmp 8) _ (A) ?_ m8 ?_ ?_ ?_ ?_ ?_ ?_); rotate_left; (· rfl); (· rfl); (· exact map_info); (· rfl); (· simp [Value.oneCell']); simp only [Act.put]; have S9 := S7.one hgB hne h8 l8; have e9 := (setRow_other w8 A E1 #[.slice a8 n8 k8] (by have := e_lt S7.m; have := E1A; omega)).trans (e_on h8 e7 (e_lt e7)); have y9 := (setRow_other w8 A w7.heap.size #[.slice a8 n8 k8] (by have := E1A; omega)).trans (e_on h8 y7 (e_lt y7)); clear c0 c1 c2' c3' c4 c5 v0' v1 v2 v3 v4 v5; obtain ⟨c0, c1, c2', c3', c4, c5⟩ := entry_row e9; obtain ⟨v0', v1, v2, v3, v4, v5⟩ := entry_row y9; clear S7 e7 y7 h8 l8 m8; generalize w8.setRow A #[.slice a8 n8 k8] = w9 at *; have HRB := Lib.hid (fun W (S : Two W w B A A2 w.heap.size g L (stp L (stp5 L k)) a8 n8 k8 (relocM Ls eb xv xz xo ez eo 2) a2 n2 c2 Ms) => mrelocate_any _ Ms eb xv xz xo ez eo 2 a2 n2 c2 W S.l2 (fun _ => by omega)); unfold RelMPost at HRB)
            | ((with_reducible refine Plan.load_lit 24 (.tmp 10) A2 ?_ S9.m2 Try.underlying24 ?_ ?_ ?_); (· rfl); (· rfl); (· exact map_info); simp only [Act.put, List.setIfInBounds_toArray, List.set_cons_zero, List.set_cons_succ])
            | (go_at_call 23; ((with_reducible refine (HRB.out _ S9).mono ?_); rintro r9 w10 ⟨a10, n10, k10, rfl, l10, h10⟩; have m10 := (S9.on h10).m2))
            | ((with_reducible refine Plan.store_lit 24 (.tmp 10) _ (A2) ?_ m10 ?_ ?_ ?_ ?_ ?_ ?_); rotate_left; (· rfl); (· rfl); (· exact map_info); (· rfl); (· simp [Value.oneCell']); simp only [Act.put]; have S11 := S9.two hgB hne h10 l10; clear S9 h10 l10 m10 e9 y9 c0 c1 c2' c3' c4 c5 v0' v1 v2 v3 v4 v5; generalize w10.setRow A2 #[.slice a10 n10 k10] = w11 at *)
            | ((with_reducible refine Plan.load_lit 28 (.tmp 13) E1 ?_ e6 Try.underlying28 ?_ ?_ ?_); (· rfl); (· rfl); (· exact entry_info); simp only [Act.put, List.setIfInBounds_toArray, List.set_cons_zero, List.set_cons_succ])
            | (go_at_call 24; (have HI12 := minstall_any (TF B A A2) Ls ⟨eb, ek, ev, em, ez, eo⟩ a n c w6 S6.l (fun _ => by omega); unfold InstMPost at HI12; generalize installME Ls ⟨eb, ek, ev, em, ez, eo⟩ = YE at HI12; generalize newerM Ls ⟨eb, ek, ev, em, ez, eo⟩ = YB at HI12; obtain ⟨yb, yk, yv, ym, yz, yo⟩ := YE; try simp only at HI12); ((with_reducible refine HI12.mono ?_); clear HI12; rintro r9 w12 ⟨a12, n12, k12, rfl, l12, h12⟩; have m12 := (S6.on h12).m))
            | ((with_reducible refine Plan.store_lit 24 (.tmp 8) _ (A) ?_ m12 ?_ ?_ ?_ ?_ ?_ ?_); rotate_left; (· rfl); (· rfl); (· exact map_info); (· rfl); (· simp [Value.oneCell']); simp only [Act.put]; have S13 := S6.one hgB hne h12 l12; have e13 := (setRow_other w12 A E1 #[.slice a12 n12 k12] (by have := E1A; omega)).trans (e_on h12 e6 (e_lt e6)); clear c0 c1 c2' c3' c4 c5; obtain ⟨c0, c1, c2', c3', c4, c5⟩ := entry_row e13; clear S6 e6 h12 l12 m12; generalize w12.setRow A #[.slice a12 n12 k12] = w13 at *)
            | ((with_reducible refine Plan.load_lit 24 (.tmp 10) A2 ?_ S13.m2 Try.underlying24 ?_ ?_ ?_); (· rfl); (· rfl); (· exact map_info); simp only [Act.put, List.setIfInBounds_toArray, List.set_cons_zero, List.set_cons_succ])
            | ((with_reducible refine Plan.load_lit 28 (.tmp 13) E1 ?_ e13 Try.underlying28 ?_ ?_ ?_); (· rfl); (· rfl); (· exact entry_info); simp only [Act.put, List.setIfInBounds_toArray, List.set_cons_zero, List.set_cons_succ])
            | (go_at_call 24; (have HI14 := minstall_any (TF B A A2) Ms ⟨eb, ek, ev, em, ez, eo⟩ a2 n2 c2 w13 S13.l2 (fun _ => by omega); unfold InstMPost at HI14; generalize installME Ms ⟨eb, ek, ev, em, ez, eo⟩ = YE at HI14; generalize newerM Ms ⟨eb, ek, ev, em, ez, eo⟩ = YB at HI14; obtain ⟨yb, yk, yv, ym, yz, yo⟩ := YE; try simp only at HI14); ((with_reducible refine HI14.mono ?_); clear HI14; rintro r9 w14 ⟨a14, n14, k14, rfl, l14, h14⟩; have m14 := (S13.on h14).m2))
            | ((with_reducible refine Plan.store_lit 24 (.tmp 10) _ (A2) ?_ m14 ?_ ?_ ?_ ?_ ?_ ?_); rotate_left; (· rfl); (· rfl); (· exact map_info); (· rfl); (· simp [Value.oneCell']); simp only [Act.put]; have S15 := S13.two hgB hne h14 l14; clear S13 h14 l14 m14 e13 c0 c1 c2' c3' c4 c5; generalize w14.setRow A2 #[.slice a14 n14 k14] = w15 at *))
          · obtain ⟨K0, hK0, hK1⟩ : ∃ K, K = stp L (stp L (stp5 L k)) ∧ K ≤ 8 * (j + 1) := ⟨_, rfl, by have h1 := stp_le L (stp L (stp5 L k)); have h2 := stp_le L (stp5 L k); have h3 := stp5_le L k; omega⟩
            rw [← hK0] at S7
            go_loopw [15] (fun y wz => ∃ (t : Nat) (a9 : Option Addr) (n9 c9 : Nat) (a8 : Option Addr) (n8 c8 : Nat), y = .int .i64 (t : Int) ∧ t ≤ 8 ∧ Two wz w B A A2 w.heap.size g L K0 a9 n9 c9 (dropsM Ls CUT t) a8 n8 c8 (dropsM Ms CUT t)) (fun y _ => 8 - (intOf y).toNat)
            case atStart => exact ⟨0, _, _, _, _, _, _, rfl, by omega, S7⟩
            case round =>
              clear S7
              obtain ⟨t, a9, n9, c9, a8, n8, c8, rfl, ht, S8⟩ := hrel
              by_cases ht8 : t < 8
              · have htI : (t : Int) < 8 := by omega
                have g1 := drops_flat Ls CUT t
                have g2 := drops_flat Ms CUT t
                have HD1 := Lib.hid (mdrop_any _ (dropsM Ls CUT t) (t : Int) CUT a9 n9 c9 _ S8.l (fun _ => by omega))
                have HD2 := Lib.hid (fun W a n c (S : Two W w B A A2 w.heap.size g L K0 a n c (dropM (dropsM Ls CUT t) (t : Int) CUT) a8 n8 c8 (dropsM Ms CUT t)) => mdrop_any _ (dropsM Ms CUT t) (t : Int) CUT a8 n8 c8 W S.l2 (fun _ => by omega))
                unfold DropMPost at HD1 HD2
                go_wp2_with (first
                  | ((with_reducible refine Plan.load_lit 24 (.tmp 8) A ?_ S8.m Try.underlying24 ?_ ?_ ?_); (· rfl); (· rfl); (· exact map_info); simp only [Act.put, List.setIfInBounds_toArray, List.set_cons_zero, List.set_cons_succ])
                  | (go_at_call 21; ((with_reducible refine HD1.out.mono ?_); rintro r9 x1 ⟨a1, n1, c1, b1, m1, d1, rfl, l1, -, h1⟩; have m1' := (S8.on h1).m))
                  | ((with_reducible refine Plan.store_lit 24 (.tmp 8) _ (A) ?_ m1' ?_ ?_ ?_ ?_ ?_ ?_); rotate_left; (· rfl); (· rfl); (· exact map_info); (· rfl); (· simp [Value.oneCell']); simp only [Act.put]; have S9 := S8.one hgB hne h1 l1; clear S8 h1 l1 m1' HD1; generalize x1.setRow A #[.slice a1 n1 c1] = x2 at *)
                  | ((with_reducible refine Plan.load_lit 24 (.tmp 10) A2 ?_ S9.m2 Try.underlying24 ?_ ?_ ?_); (· rfl); (· rfl); (· exact map_info); simp only [Act.put, List.setIfInBounds_toArray, List.set_cons_zero, List.set_cons_succ])
                  | (go_at_call 21; ((with_reducible refine (HD2.out _ _ _ _ S9).mono ?_); rintro r9 x3 ⟨a3, n3, c3, b3, m3, d3, rfl, l3, -, h3⟩; have m3' := (S9.on h3).m2))
                  | ((with_reducible refine Plan.store_lit 24 (.tmp 10) _ (A2) ?_ m3' ?_ ?_ ?_ ?_ ?_ ?_); rotate_left; (· rfl); (· rfl); (· exact map_info); (· rfl); (· simp [Value.oneCell']); simp only [Act.put]; have S10 := S9.two hgB hne h3 l3; clear S9 h3 l3 m3' HD2; generalize x3.setRow A2 #[.slice a3 n3 c3] = x4 at *))
                go_roundw
                case rel => exact ⟨t + 1, _, _, _, _, _, _, by go_num, by omega, S10⟩
                case measure => simp [intOf]; omega
              · obtain rfl : t = 8 := by omega
                have g1 := drops_flat Ls CUT 8
                have g2 := drops_flat Ms CUT 8
                go_wp2_with fail
                have HT9 : RowKit.Hid (EntMath.Twin (dropsM Ls CUT 8) (dropsM Ms CUT 8)) := Lib.hid (HT.out.drops CUT)
                have f1 : ((dropsM Ls CUT 8).flatten).length ≤ j + 1 := by omega
                have f2 : ((dropsM Ms CUT 8).flatten).length ≤ j + 1 := by omega
                have S9 : Two _ w B A A2 w.heap.size g L (K0) a9 n9 c9 (dropsM Ls CUT 8) a8 n8 c8 (dropsM Ms CUT 8) := S8
                have hK := hK1
                clear S8 HT
                generalize dropsM Ls CUT 8 = LX at *
                generalize dropsM Ms CUT 8 = MX at *
                generalize K0 = KX at *
                generalize hwx : a9 = ax at *
                generalize hwy : a8 = ay at *
                clear hwx hwy
                have HA1 := Lib.hid (fun W (S : Two W w B A A2 w.heap.size g L KX ax n9 c9 LX ay n8 c8 MX) => mall_any _ LX ax n9 c9 W S.l (fun _ => by omega))
                have HA2 := fun W (S : Two W w B A A2 w.heap.size g L KX ax n9 c9 LX ay n8 c8 MX) => mall_any _ MX ay n8 c8 W S.l2 (fun _ => by omega)
                rw [← HT9.out.all] at HA2
                have HA3 := Lib.hid HA2
                clear HA2
                generalize allM LX = AX at *
                have SD := S9.dr
                refine Plan.start (fun W => W.cell? ⟨A, 0, none⟩ = some (.slice ax n9 c9) ∧ W.cell? ⟨A2, 0, none⟩ = some (.slice ay n8 c8)) [(0, true), (2, true), (1, false), (3, false), (4, false), (5, true)] (by kernel_rfl) (by kernel_rfl) (by kernel_rfl) (by kernel_rfl) ⟨map_row S9.m, map_row S9.m2⟩ ?_
                simp only [List.map_cons, List.map_nil, List.getElem?_toArray, List.getElem?_cons_zero, List.getElem?_cons_succ]
                repeat (first | (refine Plan.take ?_ (by rfl) ?_ ?_; rotate_left; (· rintro w9 ⟨u0, u1⟩; go_simp; (try rw [if_neg (by omega)]); all_goals (with_reducible rfl)); simp only [Act.put, List.setIfInBounds_toArray, List.set_cons_zero, List.set_cons_succ]) | (refine Plan.pass (by rfl) ?_; simp only [Act.put, List.setIfInBounds_toArray, List.set_cons_zero, List.set_cons_succ]))
                refine Plan.call (by rfl) 26 _ ?_ (HA1.out _ SD) ?_
                · go_simp
                rintro r9 x1 ⟨b1, m1, d1, rfl, q1, h1⟩
                have SA := SD.on h1
                refine ⟨_, rfl, ⟨map_row SA.m, map_row SA.m2⟩, ?_⟩
                simp only [Act.put, List.setIfInBounds_toArray, List.set_cons_zero, List.set_cons_succ]
                repeat (first | (refine Plan.take ?_ (by rfl) ?_ ?_; rotate_left; (· rintro w9 ⟨u0, u1⟩; go_simp; (try rw [if_neg (by omega)]); all_goals (with_reducible rfl)); simp only [Act.put, List.setIfInBounds_toArray, List.set_cons_zero, List.set_cons_succ]) | (refine Plan.pass (by rfl) ?_; simp only [Act.put, List.setIfInBounds_toArray, List.set_cons_zero, List.set_cons_succ]))
                refine Plan.call (by rfl) 26 _ ?_ (HA3.out _ SA) ?_
                · go_simp
                rintro r9 x2 ⟨b2, m2, d2, rfl, q2, h2⟩
                have SB := SA.on h2
                have q1 := q1.on (Same.below h2)
                refine ⟨_, rfl, ⟨map_row SB.m, map_row SB.m2⟩, ?_⟩
                simp only [Act.put, List.setIfInBounds_toArray, List.set_cons_zero, List.set_cons_succ]
                repeat (first | (refine Plan.take ?_ (by rfl) ?_ ?_; rotate_left; (· rintro w9 ⟨u0, u1⟩; go_simp; (try rw [if_neg (by omega)]); all_goals (with_reducible rfl)); simp only [Act.put, List.setIfInBounds_toArray, List.set_cons_zero, List.set_cons_succ]) | (refine Plan.pass (by rfl) ?_; simp only [Act.put, List.setIfInBounds_toArray, List.set_cons_zero, List.set_cons_succ]))
                refine Plan.call (by rfl) 25 _ ?_ (refSame_any _ _ AX b1 b2 m1 d1 d2 m2 _ q1 q2) ?_
                · go_simp
                rintro r9 x3 ⟨rfl, h3⟩
                have SC := SB.on h3
                refine ⟨_, rfl, ⟨map_row SC.m, map_row SC.m2⟩, ?_⟩
                simp only [Act.put, List.setIfInBounds_toArray, List.set_cons_zero, List.set_cons_succ]
                repeat (first | (refine Plan.take ?_ (by rfl) ?_ ?_; rotate_left; (· rintro w9 ⟨u0, u1⟩; go_simp; (try rw [if_neg (by omega)]); all_goals (with_reducible rfl)); simp only [Act.put, List.setIfInBounds_toArray, List.set_cons_zero, List.set_cons_succ]) | (refine Plan.pass (by rfl) ?_; simp only [Act.put, List.setIfInBounds_toArray, List.set_cons_zero, List.set_cons_succ]))
                refine Plan.ends ?_
                clear SD SA SB q1 q2 h1 h2 h3 S9
                go_wp2_with fail
                go_roundw
                case rel => exact ⟨j + 1, KX, _, _, _, LX, _, _, _, MX, by go_num, by omega, hK, SC, HT9, f1, f2⟩
                case measure => simp [intOf]; omega
          · have HT9 : RowKit.Hid (EntMath.Twin (relocM Ls eb xv xz xo ez eo 2) (relocM Ms eb xv xz xo ez eo 2)) := Lib.hid (HT.out.reloc q5.1)
            have f1 : ((relocM Ls eb xv xz xo ez eo 2).flatten).length ≤ j + 1 := Nat.le_trans (relocM_flat ..) (by omega)
            have f2 : ((relocM Ms eb xv xz xo ez eo 2).flatten).length ≤ j + 1 := Nat.le_trans (relocM_flat ..) (by omega)
            have S9 : Two _ w B A A2 w.heap.size g L (stp L (stp5 L k)) a8 n8 k8 (relocM Ls eb xv xz xo ez eo 2) a10 n10 k10 (relocM Ms eb xv xz xo ez eo 2) := S11
            have hK : stp L (stp5 L k) ≤ 8 * (j + 1) := by have h1 := stp_le L (stp L (stp5 L k)); have h2 := stp_le L (stp5 L k); have h3 := stp5_le L k; omega
            clear S11 HT
            generalize relocM Ls eb xv xz xo ez eo 2 = LX at *
            generalize relocM Ms eb xv xz xo ez eo 2 = MX at *
            generalize stp L (stp5 L k) = KX at *
            generalize hwx : a8 = ax at *
            generalize hwy : a10 = ay at *
            clear hwx hwy
            have HA1 := Lib.hid (fun W (S : Two W w B A A2 w.heap.size g L KX ax n8 k8 LX ay n10 k10 MX) => mall_any _ LX ax n8 k8 W S.l (fun _ => by omega))
            have HA2 := fun W (S : Two W w B A A2 w.heap.size g L KX ax n8 k8 LX ay n10 k10 MX) => mall_any _ MX ay n10 k10 W S.l2 (fun _ => by omega)
            rw [← HT9.out.all] at HA2
            have HA3 := Lib.hid HA2
            clear HA2
            generalize allM LX = AX at *
            have SD := S9.dr
            refine Plan.start (fun W => W.cell? ⟨A, 0, none⟩ = some (.slice ax n8 k8) ∧ W.cell? ⟨A2, 0, none⟩ = some (.slice ay n10 k10)) [(0, true), (2, true), (1, false), (3, false), (4, false), (5, true)] (by kernel_rfl) (by kernel_rfl) (by kernel_rfl) (by kernel_rfl) ⟨map_row S9.m, map_row S9.m2⟩ ?_
            simp only [List.map_cons, List.map_nil, List.getElem?_toArray, List.getElem?_cons_zero, List.getElem?_cons_succ]
            repeat (first | (refine Plan.take ?_ (by rfl) ?_ ?_; rotate_left; (· rintro w9 ⟨u0, u1⟩; go_simp; (try rw [if_neg (by omega)]); all_goals (with_reducible rfl)); simp only [Act.put, List.setIfInBounds_toArray, List.set_cons_zero, List.set_cons_succ]) | (refine Plan.pass (by rfl) ?_; simp only [Act.put, List.setIfInBounds_toArray, List.set_cons_zero, List.set_cons_succ]))
            refine Plan.call (by rfl) 26 _ ?_ (HA1.out _ SD) ?_
            · go_simp
            rintro r9 x1 ⟨b1, m1, d1, rfl, q1, h1⟩
            have SA := SD.on h1
            refine ⟨_, rfl, ⟨map_row SA.m, map_row SA.m2⟩, ?_⟩
            simp only [Act.put, List.setIfInBounds_toArray, List.set_cons_zero, List.set_cons_succ]
            repeat (first | (refine Plan.take ?_ (by rfl) ?_ ?_; rotate_left; (· rintro w9 ⟨u0, u1⟩; go_simp; (try rw [if_neg (by omega)]); all_goals (with_reducible rfl)); simp only [Act.put, List.setIfInBounds_toArray, List.set_cons_zero, List.set_cons_succ]) | (refine Plan.pass (by rfl) ?_; simp only [Act.put, List.setIfInBounds_toArray, List.set_cons_zero, List.set_cons_succ]))
            refine Plan.call (by rfl) 26 _ ?_ (HA3.out _ SA) ?_
            · go_simp
            rintro r9 x2 ⟨b2, m2, d2, rfl, q2, h2⟩
            have SB := SA.on h2
            have q1 := q1.on (Same.below h2)
            refine ⟨_, rfl, ⟨map_row SB.m, map_row SB.m2⟩, ?_⟩
            simp only [Act.put, List.setIfInBounds_toArray, List.set_cons_zero, List.set_cons_succ]
            repeat (first | (refine Plan.take ?_ (by rfl) ?_ ?_; rotate_left; (· rintro w9 ⟨u0, u1⟩; go_simp; (try rw [if_neg (by omega)]); all_goals (with_reducible rfl)); simp only [Act.put, List.setIfInBounds_toArray, List.set_cons_zero, List.set_cons_succ]) | (refine Plan.pass (by rfl) ?_; simp only [Act.put, List.setIfInBounds_toArray, List.set_cons_zero, List.set_cons_succ]))
            refine Plan.call (by rfl) 25 _ ?_ (refSame_any _ _ AX b1 b2 m1 d1 d2 m2 _ q1 q2) ?_
            · go_simp
            rintro r9 x3 ⟨rfl, h3⟩
            have SC := SB.on h3
            refine ⟨_, rfl, ⟨map_row SC.m, map_row SC.m2⟩, ?_⟩
            simp only [Act.put, List.setIfInBounds_toArray, List.set_cons_zero, List.set_cons_succ]
            repeat (first | (refine Plan.take ?_ (by rfl) ?_ ?_; rotate_left; (· rintro w9 ⟨u0, u1⟩; go_simp; (try rw [if_neg (by omega)]); all_goals (with_reducible rfl)); simp only [Act.put, List.setIfInBounds_toArray, List.set_cons_zero, List.set_cons_succ]) | (refine Plan.pass (by rfl) ?_; simp only [Act.put, List.setIfInBounds_toArray, List.set_cons_zero, List.set_cons_succ]))
            refine Plan.ends ?_
            clear SD SA SB q1 q2 h1 h2 h3 S9
            go_wp2_with fail
            go_roundw
            case rel => exact ⟨j + 1, KX, _, _, _, LX, _, _, _, MX, by go_num, by omega, hK, SC, HT9, f1, f2⟩
            case measure => simp [intOf]; omega
          · have HT9 : RowKit.Hid (EntMath.Twin (installM Ls ⟨eb, ek, ev, em, ez, eo⟩) (installM Ms ⟨eb, ek, ev, em, ez, eo⟩)) := Lib.hid (HT.out.install ok5)
            have f1 : ((installM Ls ⟨eb, ek, ev, em, ez, eo⟩).flatten).length ≤ j + 1 := by have := installM_len Ls ⟨eb, ek, ev, em, ez, eo⟩; omega
            have f2 : ((installM Ms ⟨eb, ek, ev, em, ez, eo⟩).flatten).length ≤ j + 1 := by have := installM_len Ms ⟨eb, ek, ev, em, ez, eo⟩; omega
            have S9 : Two _ w B A A2 w.heap.size g L (stp L (stp5 L k)) a12 n12 k12 (installM Ls ⟨eb, ek, ev, em, ez, eo⟩) a14 n14 k14 (installM Ms ⟨eb, ek, ev, em, ez, eo⟩) := S15
            have hK : stp L (stp5 L k) ≤ 8 * (j + 1) := by have h1 := stp_le L (stp L (stp5 L k)); have h2 := stp_le L (stp5 L k); have h3 := stp5_le L k; omega
            clear S15 HT
            generalize installM Ls ⟨eb, ek, ev, em, ez, eo⟩ = LX at *
            generalize installM Ms ⟨eb, ek, ev, em, ez, eo⟩ = MX at *
            generalize stp L (stp5 L k) = KX at *
            generalize hwx : a12 = ax at *
            generalize hwy : a14 = ay at *
            clear hwx hwy
            have HA1 := Lib.hid (fun W (S : Two W w B A A2 w.heap.size g L KX ax n12 k12 LX ay n14 k14 MX) => mall_any _ LX ax n12 k12 W S.l (fun _ => by omega))
            have HA2 := fun W (S : Two W w B A A2 w.heap.size g L KX ax n12 k12 LX ay n14 k14 MX) => mall_any _ MX ay n14 k14 W S.l2 (fun _ => by omega)
            rw [← HT9.out.all] at HA2
            have HA3 := Lib.hid HA2
            clear HA2
            generalize allM LX = AX at *
            have SD := S9.dr
            refine Plan.start (fun W => W.cell? ⟨A, 0, none⟩ = some (.slice ax n12 k12) ∧ W.cell? ⟨A2, 0, none⟩ = some (.slice ay n14 k14)) [(0, true), (2, true), (1, false), (3, false), (4, false), (5, true)] (by kernel_rfl) (by kernel_rfl) (by kernel_rfl) (by kernel_rfl) ⟨map_row S9.m, map_row S9.m2⟩ ?_
            simp only [List.map_cons, List.map_nil, List.getElem?_toArray, List.getElem?_cons_zero, List.getElem?_cons_succ]
            repeat (first | (refine Plan.take ?_ (by rfl) ?_ ?_; rotate_left; (· rintro w9 ⟨u0, u1⟩; go_simp; (try rw [if_neg (by omega)]); all_goals (with_reducible rfl)); simp only [Act.put, List.setIfInBounds_toArray, List.set_cons_zero, List.set_cons_succ]) | (refine Plan.pass (by rfl) ?_; simp only [Act.put, List.setIfInBounds_toArray, List.set_cons_zero, List.set_cons_succ]))
            refine Plan.call (by rfl) 26 _ ?_ (HA1.out _ SD) ?_
            · go_simp
            rintro r9 x1 ⟨b1, m1, d1, rfl, q1, h1⟩
            have SA := SD.on h1
            refine ⟨_, rfl, ⟨map_row SA.m, map_row SA.m2⟩, ?_⟩
            simp only [Act.put, List.setIfInBounds_toArray, List.set_cons_zero, List.set_cons_succ]
            repeat (first | (refine Plan.take ?_ (by rfl) ?_ ?_; rotate_left; (· rintro w9 ⟨u0, u1⟩; go_simp; (try rw [if_neg (by omega)]); all_goals (with_reducible rfl)); simp only [Act.put, List.setIfInBounds_toArray, List.set_cons_zero, List.set_cons_succ]) | (refine Plan.pass (by rfl) ?_; simp only [Act.put, List.setIfInBounds_toArray, List.set_cons_zero, List.set_cons_succ]))
            refine Plan.call (by rfl) 26 _ ?_ (HA3.out _ SA) ?_
            · go_simp
            rintro r9 x2 ⟨b2, m2, d2, rfl, q2, h2⟩
            have SB := SA.on h2
            have q1 := q1.on (Same.below h2)
            refine ⟨_, rfl, ⟨map_row SB.m, map_row SB.m2⟩, ?_⟩
            simp only [Act.put, List.setIfInBounds_toArray, List.set_cons_zero, List.set_cons_succ]
            repeat (first | (refine Plan.take ?_ (by rfl) ?_ ?_; rotate_left; (· rintro w9 ⟨u0, u1⟩; go_simp; (try rw [if_neg (by omega)]); all_goals (with_reducible rfl)); simp only [Act.put, List.setIfInBounds_toArray, List.set_cons_zero, List.set_cons_succ]) | (refine Plan.pass (by rfl) ?_; simp only [Act.put, List.setIfInBounds_toArray, List.set_cons_zero, List.set_cons_succ]))
            refine Plan.call (by rfl) 25 _ ?_ (refSame_any _ _ AX b1 b2 m1 d1 d2 m2 _ q1 q2) ?_
            · go_simp
            rintro r9 x3 ⟨rfl, h3⟩
            have SC := SB.on h3
            refine ⟨_, rfl, ⟨map_row SC.m, map_row SC.m2⟩, ?_⟩
            simp only [Act.put, List.setIfInBounds_toArray, List.set_cons_zero, List.set_cons_succ]
            repeat (first | (refine Plan.take ?_ (by rfl) ?_ ?_; rotate_left; (· rintro w9 ⟨u0, u1⟩; go_simp; (try rw [if_neg (by omega)]); all_goals (with_reducible rfl)); simp only [Act.put, List.setIfInBounds_toArray, List.set_cons_zero, List.set_cons_succ]) | (refine Plan.pass (by rfl) ?_; simp only [Act.put, List.setIfInBounds_toArray, List.set_cons_zero, List.set_cons_succ]))
            refine Plan.ends ?_
            clear SD SA SB q1 q2 h1 h2 h3 S9
            go_wp2_with fail
            go_roundw
            case rel => exact ⟨j + 1, KX, _, _, _, LX, _, _, _, MX, by go_num, by omega, hK, SC, HT9, f1, f2⟩
            case measure => simp [intOf]; omega
      · have hjd : decide ((j : Int) < 40) = false := by simp; omega
        have hjI : ¬ (j : Int) < 40 := by omega
        have S4 := S
        clear S
        go_wp2_with (first
          | ((with_reducible refine load_lit_gm 24 (.tmp 8) A ?_ ?_ S4.m Try.underlying24 ?_ ?_ ?_); (· rfl); (· rfl); (· rfl); (· exact map_info); simp only [Act.put, List.setIfInBounds_toArray, List.set_cons_zero, List.set_cons_succ])
          | (go_at_call 27; ((with_reducible refine (HVA.out _ S4).mono ?_); rintro r9 w5 ⟨rfl, h5⟩; have S5 := S4.on h5; clear S4 h5))
          | ((with_reducible refine load_lit_gm 24 (.tmp 10) A2 ?_ ?_ S5.m2 Try.underlying24 ?_ ?_ ?_); (· rfl); (· rfl); (· rfl); (· exact map_info); simp only [Act.put, List.setIfInBounds_toArray, List.set_cons_zero, List.set_cons_succ])
          | (go_at_call 27; ((with_reducible refine (HVB.out _ S5).mono ?_); rintro r9 w6 ⟨rfl, h6⟩; have S6 := S5.on h6; clear S5 h6))
          | (go_at_call 9; ((with_reducible refine (HAW.out _).mono ?_); rintro r9 w99 ⟨rfl, h99⟩)))
        go_ret
        exact ⟨rfl, S6.b.trans (h99.mono S6.b.size)⟩
  · have hld : decide ((len : Int) ≤ 300) = false := by simpa using hlen
    rw [hld] at hli
    have HLI := Lib.hid hli
    go_enter Try.func5, Try.ntmps5
    go_wp2_with (first
      | (go_at_call 10; ((with_reducible refine HLI.out.mono ?_); rintro e w0 ⟨rfl, rfl⟩))
      | (go_at_call 9; ((with_reducible refine (HAW.out _).mono ?_); rintro r9 w99 ⟨rfl, h99⟩)))
    go_ret
    exact ⟨rfl, h99⟩
end Go.Proofs.Ytljobnfilnbefaa.Ents

/- L2pShards: after the same installs, relocations and drops of all shards, two maps with any numbers of shards have the same entries. No condition. -/
namespace Go.Proofs.Ytljobnfilnbefaa.l2pShards
open Go.ChangeShapes Go.WideShapes Go.ChangeAt Go.RowKit
open Go.ChangeMaps (open_string shut_string)
set_option linter.unusedVariables false

theorem own : ownKnob Try.prog.godebug = none := by kernel_rfl
theorem laidOut : laidOutB Try.prog = true := by kernel_rfl

theorem walk (a0 : Option Addr) (l0 c0 : Nat) (z0 : List Int) (a1 : Int) (w1 : (Lit.int .u8 a1).wf = true) (a2 : Int) (w2 : (Lit.int .u8 a2).wf = true) (w : World) (w0 : IsRow .i64 w a0 l0 c0 z0) :
    Calls Try.prog 5 #[.slice a0 l0 c0, .int .u8 a1, .int .u8 a2] w fun e w' => e = .returned (.bool true) ∧ Below w.heap.size w w' := by
  exact Ents.mapShards_any a0 l0 c0 z0 a1 a2 w w0 w1 w2

set_option maxRecDepth 100000 in
theorem lifted (os : Os) (started : os.Started) (H : Type) (enc : TypeId × Value → H) :
    ReturnsInHanded {} Try.checked os 5 .any (Rows.l2pShardsSpec.pre6 enc Try.prog Try.f5 Rows.l2pShardsRow.domain false) (Rows.l2pShardsSpec.post enc Try.prog Try.f5 false true false false) := by
  refine returnsInHanded_of_change (C := Try.checked) own started (by kernel_rfl) Try.func5
    (ChangeSpec.witness6 (enc := enc) (C := Try.checked) false ⟨#[], #[.slice none 0 0, .int .u8 0, .int .u8 0], []⟩ 8 (by kernel_rfl) (by kernel_rfl) (by kernel_rfl) (by kernel_rfl)) ?_
  intro W base args ds gs before hval0 hW hcnd _
  have hval : ∀ (j : Nat) t v, Try.f5.params[j]? = some t → args[j]? = some v → Value.okWide Try.prog W .any base t v := hval0
  have hW' := hW
  obtain ⟨p, q, hA0, hV, rfl, hfz, hnd⟩ := hW
  have hA : DataW.TrodAll enc Try.prog W 0 (fun _ => true) true Try.f5.params.toList args.toList ds p := hA0
  rw [Try.params5] at hA hval
  obtain ⟨v0, vs0, d0, ds0, p0, q0, hargs, rfl, rfl, h0, r0⟩ := trodAll_cons hA
  obtain ⟨v1, vs1, d1, ds1, p1, q1, rfl, rfl, rfl, h1, r1⟩ := trodAll_cons r0
  obtain ⟨v2, vs2, d2, ds2, p2, q2, rfl, rfl, rfl, h2, r2⟩ := trodAll_cons r1
  obtain ⟨rfl, rfl, rfl⟩ := trodAll_nil r2
  obtain rfl : args = #[v0, v1, v2] := by cases args; simp_all
  obtain ⟨rfl, rfl⟩ := trodVars_none hV
  have k0' := h0
  have lt0 : ∀ x ∈ p0, x.block < W.heap.size := by obtain ⟨m, hm⟩ := h0; exact DataW.trod_lt m _ _ _ hm
  have k1' := h1
  have lt1 : ∀ x ∈ p1, x.block < W.heap.size := by obtain ⟨m, hm⟩ := h1; exact DataW.trod_lt m _ _ _ hm
  have k2' := h2
  have lt2 : ∀ x ∈ p2, x.block < W.heap.size := by obtain ⟨m, hm⟩ := h2; exact DataW.trod_lt m _ _ _ hm
  obtain ⟨a0, l0, c0, rfl⟩ := okWide_slice Try.underlying32 (hval 0 32 v0 rfl rfl)
  obtain ⟨z0, w0⟩ : ∃ zs, IsRow .i64 W a0 l0 c0 zs := by
    obtain ⟨fuel, hf⟩ := h0
    rcases open_ints Try.underlying32 Try.underlying3 (by kernel_rfl) hf with ⟨hcs, _⟩ | ⟨x, l, c, zs, hcs, _, hl, hm, hz, _, hcell, hwz⟩
    · simp [Value.cells] at hcs
      obtain ⟨rfl, rfl, rfl⟩ := hcs
      exact ⟨[], .inl ⟨rfl, rfl, rfl, rfl⟩⟩
    · simp [Value.cells] at hcs
      obtain ⟨rfl, rfl, rfl⟩ := hcs
      exact ⟨zs, .inr ⟨_, rfl, hl, hm, by simpa using hz, hcell, hwz⟩⟩
  obtain ⟨a1, rfl, _, _, w1⟩ := open_int Try.underlying5 (hval 1 5 v1 rfl rfl) h1
  obtain ⟨a2, rfl, _, _, w2⟩ := open_int Try.underlying5 (hval 2 5 v2 rfl rfl) h2
  clear hA0 hval0
  refine (walk a0 l0 c0 z0 a1 w1 a2 w2 W w0).mono fun e W' ⟨he, bel⟩ => ?_
  subst he
  exact ⟨_, rfl, _, _, _, [], _, [], hW', trodAll_mk1 (shut_bool Try.underlying4 _), (trodAll_cons_mk (Below.trod laidOut (by kernel_rfl) (of_decide_eq_true (by kernel_rfl)) k0' bel lt0) (trodAll_cons_mk (Below.trod laidOut (by kernel_rfl) (of_decide_eq_true (by kernel_rfl)) k1' bel lt1) (trodAll_cons_mk (Below.trod laidOut (by kernel_rfl) (of_decide_eq_true (by kernel_rfl)) k2' bel lt2) trodAll_mk0))), rfl, bel.frame _, fun h => by cases h⟩

theorem over : Rows.l2pShardsRow.holds Try.pinned (OpenSpec.ofChange Rows.l2pShardsSpec) :=
  OpenClaim.holds_of_wide 5 Try.f5 rfl rfl rfl rfl rfl rfl rfl ⟨rfl, rfl, rfl, rfl, rfl⟩ rfl rfl rfl rfl rfl (by kernel_rfl) Try.func5 (by kernel_rfl)
    (of_decide_eq_true (by kernel_rfl)) (by unfold Func.isWrapper; first | (rw [if_pos (by decide +kernel)]; kernel_rfl) | (rw [if_neg (by decide +kernel)]; exact ⟨rfl, rfl⟩))
    (fun os started H enc _ => lifted os started H enc)
end Go.Proofs.Ytljobnfilnbefaa.l2pShards

namespace Go.Proofs.Ytljobnfilnbefaa
theorem l2pShards_holds : Rows.L2pShardsSaid := l2pShards.over
end Go.Proofs.Ytljobnfilnbefaa
