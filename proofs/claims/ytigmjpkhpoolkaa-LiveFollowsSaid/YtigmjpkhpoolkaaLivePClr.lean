
/- The walk of the program's Clear of counters. -/
import Derived.Test.YtigmjpkhpoolkaaLivePOf
namespace Go.Proofs.Ytigmjpkhpoolkaa.Ents
open Go.RowKit Plan EntMath CntMath
set_option maxHeartbeats 4000000 in
set_option maxRecDepth 20000 in
theorem lclr_any (F : Nat → Prop) (C : Cnt) (z : Int) (a a2 : Option Addr) (n c n2 c2 : Nat) (w : World) (hl : CList w F a n c a2 n2 c2 C) :
    Calls Try.prog 26 #[cntV a n c a2 n2 c2, .int .i64 z] w (CntPost w F C (clearB C z)) := by
  have hA := ((Below.refl w.heap.size w).alloc (Nat.le_refl _) (cntRow a n c a2 n2 c2)).alloc (by simp) (cntRow none 0 0 none 0 0)
  have hx0 := heap_first w (cntRow a n c a2 n2 c2) (cntRow none 0 0 none 0 0)
  have hr0 := heap_second w (cntRow a n c a2 n2 c2) (cntRow none 0 0 none 0 0)
  have HV := Lib.hid (fun W (h : Below w.heap.size w W) => lvalid_any _ C a a2 n c n2 c2 W (hl.same h))
  have HZ := Lib.hid (fun W => isZone_any z a a2 n c n2 c2 W)
  have HEND := Lib.hid (fun W (h : Below w.heap.size w W) (cs : Array Value) => (show CList (W.setRow (w.heap.size + 1) cs) (Plus F w.heap.size) a n c a2 n2 c2 C from
    ((hl.cut.on (Same.below (w' := W) h)).on (Same.row (r := w.heap.size + 1) (fun h9 => by have := h9.2; omega) cs)).mono (fun b _ h => .inl h.1)))
  cases hva : validC C
  · have hh : hasC C z = false := by unfold hasC; rw [hva]; rfl
    rw [(has_no hh).2.2]
    rw [hva] at HV
    clear hl hh hva HZ
    go_enter Try.func26, Try.ntmps26
    generalize hw0 : (w.alloc (cntRow a n c a2 n2 c2)).alloc (cntRow none 0 0 none 0 0) = w0 at *
    go_wp2_with fail
    refine Plan.start (fun W => (W.cell? ⟨w.heap.size, 0, none⟩ = some (.slice a n c) ∧ W.cell? ⟨w.heap.size, 1, none⟩ = some (.slice a2 n2 c2))) [(0, true), (1, true), (2, false), (3, true), (4, true), (5, true), (6, false), (7, true), (8, true), (9, true), (10, true), (11, true), (12, true), (13, true), (14, true), (15, true), (16, true), (17, true), (18, true), (19, true), (20, true), (21, true), (22, true), (23, true), (24, false), (25, true)] (by kernel_rfl) (by kernel_rfl) (by kernel_rfl) (by kernel_rfl) (two_row hx0) ?_
    simp only [List.map_cons, List.map_nil, List.getElem?_toArray, List.getElem?_cons_zero, List.getElem?_cons_succ]
    repeat (first | (refine Plan.take ?_ (by rfl) ?_ ?_; rotate_left; (· rintro w9 ⟨u0, u1⟩; go_simp; (try rw [if_neg (by omega)]); all_goals (with_reducible rfl)); simp only [Act.put, List.setIfInBounds_toArray, List.set_cons_zero, List.set_cons_succ]) | (refine Plan.pass (by rfl) ?_; simp only [Act.put, List.setIfInBounds_toArray, List.set_cons_zero, List.set_cons_succ]))
    refine Plan.call (by rfl) 22 _ ?_ (HV.out _ hA.drew) ?_
    · go_simp
    rintro r9 w1 ⟨rfl, h1⟩
    have b1 := hA.drew.trans (h1.mono hA.drew.size)
    have hx1 := e_on h1 (show w0.drew.heap[w.heap.size]? = _ from hx0) (e_lt hx0)
    have hr1 := e_on h1 (show w0.drew.heap[w.heap.size + 1]? = _ from hr0) (e_lt hr0)
    refine ⟨_, rfl, (two_row hx1), ?_⟩
    simp only [Act.put, List.setIfInBounds_toArray, List.set_cons_zero, List.set_cons_succ]
    repeat (first | (refine Plan.take ?_ (by rfl) ?_ ?_; rotate_left; (· rintro w9 ⟨u0, u1⟩; go_simp; (try rw [if_neg (by omega)]); all_goals (with_reducible rfl)); simp only [Act.put, List.setIfInBounds_toArray, List.set_cons_zero, List.set_cons_succ]) | (refine Plan.pass (by rfl) ?_; simp only [Act.put, List.setIfInBounds_toArray, List.set_cons_zero, List.set_cons_succ]))
    refine Plan.pass' (by rfl) (two_row hx1) ?_
    simp only [Act.put, List.setIfInBounds_toArray, List.set_cons_zero, List.set_cons_succ]
    repeat (first | (refine Plan.take ?_ (by rfl) ?_ ?_; rotate_left; (· rintro w9 ⟨u0, u1⟩; go_simp; (try rw [if_neg (by omega)]); all_goals (with_reducible rfl)); simp only [Act.put, List.setIfInBounds_toArray, List.set_cons_zero, List.set_cons_succ]) | (refine Plan.pass (by rfl) ?_; simp only [Act.put, List.setIfInBounds_toArray, List.set_cons_zero, List.set_cons_succ]))
    have r3 := setRow_heap w1 (w.heap.size + 1) _ #[.slice a n c, .slice a2 n2 c2] _ _ hr1
    have x3 := (setRow_other w1 (w.heap.size + 1) w.heap.size #[.slice a n c, .slice a2 n2 c2] (by omega)).trans hx1
    have b3 := below_setRow b1 (show w.heap.size ≤ w.heap.size + 1 by omega) #[.slice a n c, .slice a2 n2 c2]
    refine Plan.store (by rfl) 24 (.tmp 4) (.tmp 6) rfl (w.heap.size + 1) #[.slice a n c, .slice a2 n2 c2] rfl rfl 24 _ hr1 cnt_info rfl (by simp [Value.oneCell']) (two_row x3) ?_
    simp only [Act.put]
    repeat (first | (refine Plan.take ?_ (by rfl) ?_ ?_; rotate_left; (· rintro w9 ⟨u0, u1⟩; go_simp; (try rw [if_neg (by omega)]); all_goals (with_reducible rfl)); simp only [Act.put, List.setIfInBounds_toArray, List.set_cons_zero, List.set_cons_succ]) | (refine Plan.pass (by rfl) ?_; simp only [Act.put, List.setIfInBounds_toArray, List.set_cons_zero, List.set_cons_succ]))
    refine Plan.ends ?_
    clear hx1 hr1 x3
    go_wp2_with fail
    exact bodyPost_ret (Plan.results_cell_tmp (p := 4) (q := 5) rfl _ _ _ _ _ _ _ rfl (r3) Try.underlying24 rfl cnt_info) rfl ⟨_, _, _, _, _, _, rfl, HEND.out _ b1 _, b3⟩
  · cases hh : hasC C z
    · have hz : decide (0 ≤ z ∧ z < (n : Int)) = false := by
        cases hd : decide (0 ≤ z ∧ z < (n : Int))
        · rfl
        · have h1 := of_decide_eq_true hd
          have h2 := hl.l.length
          rw [has_c.2 ⟨hva, h1.1, by omega⟩] at hh
          cases hh
      rw [(has_no hh).2.2]
      rw [hva] at HV
      rw [hz] at HZ
      clear hl hh hva hz
      go_enter Try.func26, Try.ntmps26
      generalize hw0 : (w.alloc (cntRow a n c a2 n2 c2)).alloc (cntRow none 0 0 none 0 0) = w0 at *
      go_wp2_with fail
      refine Plan.start (fun W => (W.cell? ⟨w.heap.size, 0, none⟩ = some (.slice a n c) ∧ W.cell? ⟨w.heap.size, 1, none⟩ = some (.slice a2 n2 c2))) [(0, true), (1, true), (2, false), (3, true), (4, true), (5, true), (6, false), (7, true), (8, true), (9, true), (10, true), (11, true), (12, true), (13, true), (14, true), (15, true), (16, true), (17, true), (18, true), (19, true), (20, true), (21, true), (22, true), (23, true), (24, false), (25, true)] (by kernel_rfl) (by kernel_rfl) (by kernel_rfl) (by kernel_rfl) (two_row hx0) ?_
      simp only [List.map_cons, List.map_nil, List.getElem?_toArray, List.getElem?_cons_zero, List.getElem?_cons_succ]
      repeat (first | (refine Plan.take ?_ (by rfl) ?_ ?_; rotate_left; (· rintro w9 ⟨u0, u1⟩; go_simp; (try rw [if_neg (by omega)]); all_goals (with_reducible rfl)); simp only [Act.put, List.setIfInBounds_toArray, List.set_cons_zero, List.set_cons_succ]) | (refine Plan.pass (by rfl) ?_; simp only [Act.put, List.setIfInBounds_toArray, List.set_cons_zero, List.set_cons_succ]))
      refine Plan.call (by rfl) 22 _ ?_ (HV.out _ hA.drew) ?_
      · go_simp
      rintro r9 w1 ⟨rfl, h1⟩
      have b1 := hA.drew.trans (h1.mono hA.drew.size)
      have hx1 := e_on h1 (show w0.drew.heap[w.heap.size]? = _ from hx0) (e_lt hx0)
      have hr1 := e_on h1 (show w0.drew.heap[w.heap.size + 1]? = _ from hr0) (e_lt hr0)
      refine ⟨_, rfl, (two_row hx1), ?_⟩
      simp only [Act.put, List.setIfInBounds_toArray, List.set_cons_zero, List.set_cons_succ]
      repeat (first | (refine Plan.take ?_ (by rfl) ?_ ?_; rotate_left; (· rintro w9 ⟨u0, u1⟩; go_simp; (try rw [if_neg (by omega)]); all_goals (with_reducible rfl)); simp only [Act.put, List.setIfInBounds_toArray, List.set_cons_zero, List.set_cons_succ]) | (refine Plan.pass (by rfl) ?_; simp only [Act.put, List.setIfInBounds_toArray, List.set_cons_zero, List.set_cons_succ]))
      refine Plan.call (by rfl) 32 _ ?_ (HZ.out _) ?_
      · go_simp
      rintro r9 w2 ⟨rfl, h2⟩
      have b2 := b1.trans (h2.mono b1.size)
      have hx2 := e_on h2 hx1 (e_lt hx1)
      have hr2 := e_on h2 hr1 (e_lt hr1)
      refine ⟨_, rfl, (two_row hx2), ?_⟩
      simp only [Act.put, List.setIfInBounds_toArray, List.set_cons_zero, List.set_cons_succ]
      repeat (first | (refine Plan.take ?_ (by rfl) ?_ ?_; rotate_left; (· rintro w9 ⟨u0, u1⟩; go_simp; (try rw [if_neg (by omega)]); all_goals (with_reducible rfl)); simp only [Act.put, List.setIfInBounds_toArray, List.set_cons_zero, List.set_cons_succ]) | (refine Plan.pass (by rfl) ?_; simp only [Act.put, List.setIfInBounds_toArray, List.set_cons_zero, List.set_cons_succ]))
      have r3 := setRow_heap w2 (w.heap.size + 1) _ #[.slice a n c, .slice a2 n2 c2] _ _ hr2
      have x3 := (setRow_other w2 (w.heap.size + 1) w.heap.size #[.slice a n c, .slice a2 n2 c2] (by omega)).trans hx2
      have b3 := below_setRow b2 (show w.heap.size ≤ w.heap.size + 1 by omega) #[.slice a n c, .slice a2 n2 c2]
      refine Plan.store (by rfl) 24 (.tmp 4) (.tmp 6) rfl (w.heap.size + 1) #[.slice a n c, .slice a2 n2 c2] rfl rfl 24 _ hr2 cnt_info rfl (by simp [Value.oneCell']) (two_row x3) ?_
      simp only [Act.put]
      repeat (first | (refine Plan.take ?_ (by rfl) ?_ ?_; rotate_left; (· rintro w9 ⟨u0, u1⟩; go_simp; (try rw [if_neg (by omega)]); all_goals (with_reducible rfl)); simp only [Act.put, List.setIfInBounds_toArray, List.set_cons_zero, List.set_cons_succ]) | (refine Plan.pass (by rfl) ?_; simp only [Act.put, List.setIfInBounds_toArray, List.set_cons_zero, List.set_cons_succ]))
      refine Plan.ends ?_
      clear hx2 hr2 x3
      go_wp2_with fail
      exact bodyPost_ret (Plan.results_cell_tmp (p := 4) (q := 5) rfl _ _ _ _ _ _ _ rfl (r3) Try.underlying24 rfl cnt_info) rfl ⟨_, _, _, _, _, _, rfl, HEND.out _ b2 _, b3⟩
    · obtain ⟨k, rfl, rfl, hk, hn32, x, q, x2, p, rfl, rfl, hq, hp, bq, bp, hcx, hcp⟩ := has_at hl hh
      have hcl : clearB C (k : Int) = (decide (q = 0) && decide (p = 0)) := by unfold clearB; rw [hh, Int.toNat_natCast, getD_at hq, getD_at hp]; rfl
      rw [hcl]
      rw [hva] at HV
      have hkI : (k : Int) < (n : Int) := by omega
      rw [decide_eq_true (show 0 ≤ (k : Int) ∧ (k : Int) < (n : Int) by omega)] at HZ
      have hxl : x.block < w.heap.size := by
        have := World.block_lt_of_cell? w _ hcx
        rwa [ent_add_block] at this
      have hx2l : x2.block < w.heap.size := by
        have := World.block_lt_of_cell? w _ hcp
        rwa [ent_add_block] at this
      have HCX := Lib.hid (fun W (h : Below w.heap.size w W) => (h.cell (show (x.add k).block < w.heap.size by rw [ent_add_block]; exact hxl)).trans hcx)
      have HCP := Lib.hid (fun W (h : Below w.heap.size w W) => (h.cell (show (x2.add k).block < w.heap.size by rw [ent_add_block]; exact hx2l)).trans hcp)
      clear hl hh hcx hcp hq hp hcl hva
      rcases (show (¬ q = 0) ∨ (q = 0 ∧ ¬ p = 0) ∨ (q = 0 ∧ p = 0) by omega) with g1 | ⟨g1, g2⟩ | ⟨g1, g2⟩
      · have t1 : (q == 0) = false := by simpa using g1
        rw [decide_eq_false g1, Bool.false_and]
        go_enter Try.func26, Try.ntmps26
        generalize hw0 : (w.alloc (cntRow (some x) n c (some x2) n c2)).alloc (cntRow none 0 0 none 0 0) = w0 at *
        go_wp2_with fail
        refine Plan.start (fun W => (W.cell? ⟨w.heap.size, 0, none⟩ = some (.slice (some x) n c) ∧ W.cell? ⟨w.heap.size, 1, none⟩ = some (.slice (some x2) n c2)) ∧ W.cell? (x.add k) = some (.int .i64 q) ∧ W.cell? (x2.add k) = some (.int .i64 p)) [(0, true), (1, true), (2, false), (3, true), (4, true), (5, true), (6, false), (7, true), (8, true), (9, true), (10, true), (11, true), (12, true), (13, true), (14, true), (15, true), (16, true), (17, true), (18, true), (19, true), (20, true), (21, true), (22, true), (23, true), (24, false), (25, true)] (by kernel_rfl) (by kernel_rfl) (by kernel_rfl) (by kernel_rfl) ⟨(two_row hx0), HCX.out _ (hA.drew), HCP.out _ (hA.drew)⟩ ?_
        simp only [List.map_cons, List.map_nil, List.getElem?_toArray, List.getElem?_cons_zero, List.getElem?_cons_succ]
        repeat (first | (refine Plan.take ?_ (by rfl) ?_ ?_; rotate_left; (· rintro w9 ⟨⟨u0, u1⟩, u2, u3⟩; go_simp; (try rw [if_neg (by omega)]); all_goals (with_reducible rfl)); simp only [Act.put, List.setIfInBounds_toArray, List.set_cons_zero, List.set_cons_succ]) | (refine Plan.pass (by rfl) ?_; simp only [Act.put, List.setIfInBounds_toArray, List.set_cons_zero, List.set_cons_succ]))
        refine Plan.call (by rfl) 22 _ ?_ (HV.out _ hA.drew) ?_
        · go_simp
        rintro r9 w1 ⟨rfl, h1⟩
        have b1 := hA.drew.trans (h1.mono hA.drew.size)
        have hx1 := e_on h1 (show w0.drew.heap[w.heap.size]? = _ from hx0) (e_lt hx0)
        have hr1 := e_on h1 (show w0.drew.heap[w.heap.size + 1]? = _ from hr0) (e_lt hr0)
        refine ⟨_, rfl, ⟨(two_row hx1), HCX.out _ (b1), HCP.out _ (b1)⟩, ?_⟩
        simp only [Act.put, List.setIfInBounds_toArray, List.set_cons_zero, List.set_cons_succ]
        repeat (first | (refine Plan.take ?_ (by rfl) ?_ ?_; rotate_left; (· rintro w9 ⟨⟨u0, u1⟩, u2, u3⟩; go_simp; (try rw [if_neg (by omega)]); all_goals (with_reducible rfl)); simp only [Act.put, List.setIfInBounds_toArray, List.set_cons_zero, List.set_cons_succ]) | (refine Plan.pass (by rfl) ?_; simp only [Act.put, List.setIfInBounds_toArray, List.set_cons_zero, List.set_cons_succ]))
        refine Plan.call (by rfl) 32 _ ?_ (HZ.out _) ?_
        · go_simp
        rintro r9 w2 ⟨rfl, h2⟩
        have b2 := b1.trans (h2.mono b1.size)
        have hx2 := e_on h2 hx1 (e_lt hx1)
        have hr2 := e_on h2 hr1 (e_lt hr1)
        refine ⟨_, rfl, ⟨(two_row hx2), HCX.out _ (b2), HCP.out _ (b2)⟩, ?_⟩
        simp only [Act.put, List.setIfInBounds_toArray, List.set_cons_zero, List.set_cons_succ]
        repeat (first | (refine Plan.take ?_ (by rfl) ?_ ?_; rotate_left; (· rintro w9 ⟨⟨u0, u1⟩, u2, u3⟩; go_simp; (try rw [if_neg (by omega)]); all_goals (with_reducible rfl)); simp only [Act.put, List.setIfInBounds_toArray, List.set_cons_zero, List.set_cons_succ]) | (refine Plan.pass (by rfl) ?_; simp only [Act.put, List.setIfInBounds_toArray, List.set_cons_zero, List.set_cons_succ]))
        have r3 := setRow_heap w2 (w.heap.size + 1) _ #[.slice (some x) n c, .slice (some x2) n c2] _ _ hr2
        have x3 := (setRow_other w2 (w.heap.size + 1) w.heap.size #[.slice (some x) n c, .slice (some x2) n c2] (by omega)).trans hx2
        have b3 := below_setRow b2 (show w.heap.size ≤ w.heap.size + 1 by omega) #[.slice (some x) n c, .slice (some x2) n c2]
        refine Plan.store (by rfl) 24 (.tmp 4) (.tmp 6) rfl (w.heap.size + 1) #[.slice (some x) n c, .slice (some x2) n c2] rfl rfl 24 _ hr2 cnt_info rfl (by simp [Value.oneCell']) ⟨(two_row x3), HCX.out _ (b3), HCP.out _ (b3)⟩ ?_
        simp only [Act.put]
        repeat (first | (refine Plan.take ?_ (by rfl) ?_ ?_; rotate_left; (· rintro w9 ⟨⟨u0, u1⟩, u2, u3⟩; go_simp; (try rw [if_neg (by omega)]); all_goals (with_reducible rfl)); simp only [Act.put, List.setIfInBounds_toArray, List.set_cons_zero, List.set_cons_succ]) | (refine Plan.pass (by rfl) ?_; simp only [Act.put, List.setIfInBounds_toArray, List.set_cons_zero, List.set_cons_succ]))
        refine Plan.ends ?_
        clear hx2 hr2 x3
        go_wp2_with fail
        exact bodyPost_ret (Plan.results_cell_tmp (p := 4) (q := 5) rfl _ _ _ _ _ _ _ rfl (r3) Try.underlying24 rfl cnt_info) rfl ⟨_, _, _, _, _, _, rfl, HEND.out _ b2 _, b3⟩
      · have t1 : (q == 0) = true := by simpa using g1
        have t2 : (p == 0) = false := by simpa using g2
        rw [decide_eq_true g1, decide_eq_false g2, Bool.true_and]
        go_enter Try.func26, Try.ntmps26
        generalize hw0 : (w.alloc (cntRow (some x) n c (some x2) n c2)).alloc (cntRow none 0 0 none 0 0) = w0 at *
        go_wp2_with fail
        refine Plan.start (fun W => (W.cell? ⟨w.heap.size, 0, none⟩ = some (.slice (some x) n c) ∧ W.cell? ⟨w.heap.size, 1, none⟩ = some (.slice (some x2) n c2)) ∧ W.cell? (x.add k) = some (.int .i64 q) ∧ W.cell? (x2.add k) = some (.int .i64 p)) [(0, true), (1, true), (2, false), (3, true), (4, true), (5, true), (6, false), (7, true), (8, true), (9, true), (10, true), (11, true), (12, true), (13, true), (14, true), (15, true), (16, true), (17, true), (18, true), (19, true), (20, true), (21, true), (22, true), (23, true), (24, false), (25, true)] (by kernel_rfl) (by kernel_rfl) (by kernel_rfl) (by kernel_rfl) ⟨(two_row hx0), HCX.out _ (hA.drew), HCP.out _ (hA.drew)⟩ ?_
        simp only [List.map_cons, List.map_nil, List.getElem?_toArray, List.getElem?_cons_zero, List.getElem?_cons_succ]
        repeat (first | (refine Plan.take ?_ (by rfl) ?_ ?_; rotate_left; (· rintro w9 ⟨⟨u0, u1⟩, u2, u3⟩; go_simp; (try rw [if_neg (by omega)]); all_goals (with_reducible rfl)); simp only [Act.put, List.setIfInBounds_toArray, List.set_cons_zero, List.set_cons_succ]) | (refine Plan.pass (by rfl) ?_; simp only [Act.put, List.setIfInBounds_toArray, List.set_cons_zero, List.set_cons_succ]))
        refine Plan.call (by rfl) 22 _ ?_ (HV.out _ hA.drew) ?_
        · go_simp
        rintro r9 w1 ⟨rfl, h1⟩
        have b1 := hA.drew.trans (h1.mono hA.drew.size)
        have hx1 := e_on h1 (show w0.drew.heap[w.heap.size]? = _ from hx0) (e_lt hx0)
        have hr1 := e_on h1 (show w0.drew.heap[w.heap.size + 1]? = _ from hr0) (e_lt hr0)
        refine ⟨_, rfl, ⟨(two_row hx1), HCX.out _ (b1), HCP.out _ (b1)⟩, ?_⟩
        simp only [Act.put, List.setIfInBounds_toArray, List.set_cons_zero, List.set_cons_succ]
        repeat (first | (refine Plan.take ?_ (by rfl) ?_ ?_; rotate_left; (· rintro w9 ⟨⟨u0, u1⟩, u2, u3⟩; go_simp; (try rw [if_neg (by omega)]); all_goals (with_reducible rfl)); simp only [Act.put, List.setIfInBounds_toArray, List.set_cons_zero, List.set_cons_succ]) | (refine Plan.pass (by rfl) ?_; simp only [Act.put, List.setIfInBounds_toArray, List.set_cons_zero, List.set_cons_succ]))
        refine Plan.call (by rfl) 32 _ ?_ (HZ.out _) ?_
        · go_simp
        rintro r9 w2 ⟨rfl, h2⟩
        have b2 := b1.trans (h2.mono b1.size)
        have hx2 := e_on h2 hx1 (e_lt hx1)
        have hr2 := e_on h2 hr1 (e_lt hr1)
        refine ⟨_, rfl, ⟨(two_row hx2), HCX.out _ (b2), HCP.out _ (b2)⟩, ?_⟩
        simp only [Act.put, List.setIfInBounds_toArray, List.set_cons_zero, List.set_cons_succ]
        repeat (first | (refine Plan.take ?_ (by rfl) ?_ ?_; rotate_left; (· rintro w9 ⟨⟨u0, u1⟩, u2, u3⟩; go_simp; (try rw [if_neg (by omega)]); all_goals (with_reducible rfl)); simp only [Act.put, List.setIfInBounds_toArray, List.set_cons_zero, List.set_cons_succ]) | (refine Plan.pass (by rfl) ?_; simp only [Act.put, List.setIfInBounds_toArray, List.set_cons_zero, List.set_cons_succ]))
        have r3 := setRow_heap w2 (w.heap.size + 1) _ #[.slice (some x) n c, .slice (some x2) n c2] _ _ hr2
        have x3 := (setRow_other w2 (w.heap.size + 1) w.heap.size #[.slice (some x) n c, .slice (some x2) n c2] (by omega)).trans hx2
        have b3 := below_setRow b2 (show w.heap.size ≤ w.heap.size + 1 by omega) #[.slice (some x) n c, .slice (some x2) n c2]
        refine Plan.store (by rfl) 24 (.tmp 4) (.tmp 6) rfl (w.heap.size + 1) #[.slice (some x) n c, .slice (some x2) n c2] rfl rfl 24 _ hr2 cnt_info rfl (by simp [Value.oneCell']) ⟨(two_row x3), HCX.out _ (b3), HCP.out _ (b3)⟩ ?_
        simp only [Act.put]
        repeat (first | (refine Plan.take ?_ (by rfl) ?_ ?_; rotate_left; (· rintro w9 ⟨⟨u0, u1⟩, u2, u3⟩; go_simp; (try rw [if_neg (by omega)]); all_goals (with_reducible rfl)); simp only [Act.put, List.setIfInBounds_toArray, List.set_cons_zero, List.set_cons_succ]) | (refine Plan.pass (by rfl) ?_; simp only [Act.put, List.setIfInBounds_toArray, List.set_cons_zero, List.set_cons_succ]))
        refine Plan.ends ?_
        clear hx2 hr2 x3
        go_wp2_with fail
        exact bodyPost_ret (Plan.results_cell_tmp (p := 4) (q := 5) rfl _ _ _ _ _ _ _ rfl (r3) Try.underlying24 rfl cnt_info) rfl ⟨_, _, _, _, _, _, rfl, HEND.out _ b2 _, b3⟩
      · have t1 : (q == 0) = true := by simpa using g1
        have t2 : (p == 0) = true := by simpa using g2
        rw [decide_eq_true g1, decide_eq_true g2, Bool.true_and]
        go_enter Try.func26, Try.ntmps26
        generalize hw0 : (w.alloc (cntRow (some x) n c (some x2) n c2)).alloc (cntRow none 0 0 none 0 0) = w0 at *
        go_wp2_with fail
        refine Plan.start (fun W => (W.cell? ⟨w.heap.size, 0, none⟩ = some (.slice (some x) n c) ∧ W.cell? ⟨w.heap.size, 1, none⟩ = some (.slice (some x2) n c2)) ∧ W.cell? (x.add k) = some (.int .i64 q) ∧ W.cell? (x2.add k) = some (.int .i64 p)) [(0, true), (1, true), (2, false), (3, true), (4, true), (5, true), (6, false), (7, true), (8, true), (9, true), (10, true), (11, true), (12, true), (13, true), (14, true), (15, true), (16, true), (17, true), (18, true), (19, true), (20, true), (21, true), (22, true), (23, true), (24, false), (25, true)] (by kernel_rfl) (by kernel_rfl) (by kernel_rfl) (by kernel_rfl) ⟨(two_row hx0), HCX.out _ (hA.drew), HCP.out _ (hA.drew)⟩ ?_
        simp only [List.map_cons, List.map_nil, List.getElem?_toArray, List.getElem?_cons_zero, List.getElem?_cons_succ]
        repeat (first | (refine Plan.take ?_ (by rfl) ?_ ?_; rotate_left; (· rintro w9 ⟨⟨u0, u1⟩, u2, u3⟩; go_simp; (try rw [if_neg (by omega)]); all_goals (with_reducible rfl)); simp only [Act.put, List.setIfInBounds_toArray, List.set_cons_zero, List.set_cons_succ]) | (refine Plan.pass (by rfl) ?_; simp only [Act.put, List.setIfInBounds_toArray, List.set_cons_zero, List.set_cons_succ]))
        refine Plan.call (by rfl) 22 _ ?_ (HV.out _ hA.drew) ?_
        · go_simp
        rintro r9 w1 ⟨rfl, h1⟩
        have b1 := hA.drew.trans (h1.mono hA.drew.size)
        have hx1 := e_on h1 (show w0.drew.heap[w.heap.size]? = _ from hx0) (e_lt hx0)
        have hr1 := e_on h1 (show w0.drew.heap[w.heap.size + 1]? = _ from hr0) (e_lt hr0)
        refine ⟨_, rfl, ⟨(two_row hx1), HCX.out _ (b1), HCP.out _ (b1)⟩, ?_⟩
        simp only [Act.put, List.setIfInBounds_toArray, List.set_cons_zero, List.set_cons_succ]
        repeat (first | (refine Plan.take ?_ (by rfl) ?_ ?_; rotate_left; (· rintro w9 ⟨⟨u0, u1⟩, u2, u3⟩; go_simp; (try rw [if_neg (by omega)]); all_goals (with_reducible rfl)); simp only [Act.put, List.setIfInBounds_toArray, List.set_cons_zero, List.set_cons_succ]) | (refine Plan.pass (by rfl) ?_; simp only [Act.put, List.setIfInBounds_toArray, List.set_cons_zero, List.set_cons_succ]))
        refine Plan.call (by rfl) 32 _ ?_ (HZ.out _) ?_
        · go_simp
        rintro r9 w2 ⟨rfl, h2⟩
        have b2 := b1.trans (h2.mono b1.size)
        have hx2 := e_on h2 hx1 (e_lt hx1)
        have hr2 := e_on h2 hr1 (e_lt hr1)
        refine ⟨_, rfl, ⟨(two_row hx2), HCX.out _ (b2), HCP.out _ (b2)⟩, ?_⟩
        simp only [Act.put, List.setIfInBounds_toArray, List.set_cons_zero, List.set_cons_succ]
        repeat (first | (refine Plan.take ?_ (by rfl) ?_ ?_; rotate_left; (· rintro w9 ⟨⟨u0, u1⟩, u2, u3⟩; go_simp; (try rw [if_neg (by omega)]); all_goals (with_reducible rfl)); simp only [Act.put, List.setIfInBounds_toArray, List.set_cons_zero, List.set_cons_succ]) | (refine Plan.pass (by rfl) ?_; simp only [Act.put, List.setIfInBounds_toArray, List.set_cons_zero, List.set_cons_succ]))
        have r3 := setRow_heap w2 (w.heap.size + 1) _ #[.slice (some x) n c, .slice (some x2) n c2] _ _ hr2
        have x3 := (setRow_other w2 (w.heap.size + 1) w.heap.size #[.slice (some x) n c, .slice (some x2) n c2] (by omega)).trans hx2
        have b3 := below_setRow b2 (show w.heap.size ≤ w.heap.size + 1 by omega) #[.slice (some x) n c, .slice (some x2) n c2]
        refine Plan.store (by rfl) 24 (.tmp 4) (.tmp 6) rfl (w.heap.size + 1) #[.slice (some x) n c, .slice (some x2) n c2] rfl rfl 24 _ hr2 cnt_info rfl (by simp [Value.oneCell']) ⟨(two_row x3), HCX.out _ (b3), HCP.out _ (b3)⟩ ?_
        simp only [Act.put]
        repeat (first | (refine Plan.take ?_ (by rfl) ?_ ?_; rotate_left; (· rintro w9 ⟨⟨u0, u1⟩, u2, u3⟩; go_simp; (try rw [if_neg (by omega)]); all_goals (with_reducible rfl)); simp only [Act.put, List.setIfInBounds_toArray, List.set_cons_zero, List.set_cons_succ]) | (refine Plan.pass (by rfl) ?_; simp only [Act.put, List.setIfInBounds_toArray, List.set_cons_zero, List.set_cons_succ]))
        refine Plan.ends ?_
        clear hx2 hr2 x3
        go_wp2_with fail
        exact bodyPost_ret (Plan.results_cell_tmp (p := 4) (q := 5) rfl _ _ _ _ _ _ _ rfl (r3) Try.underlying24 rfl cnt_info) rfl ⟨_, _, _, _, _, _, rfl, HEND.out _ b2 _, b3⟩
end Go.Proofs.Ytigmjpkhpoolkaa.Ents
