
/- The walks of the program's New and Of of counters. -/
import Derived.Test.YtigmjpkhpoolkaaLivePend2
namespace Go.Proofs.Ytigmjpkhpoolkaa.Ents
open Go.RowKit Plan EntMath CntMath
set_option maxHeartbeats 2000000 in
set_option maxRecDepth 20000 in
theorem lnew_some (n : Nat) (hs1 : 1 ≤ n) (hs2 : n ≤ 32) (w : World) : Calls Try.prog 10 #[.int .i64 (n : Int)] w (CNewTwo w n) := by
  have hA := (Below.refl w.heap.size w).alloc (Nat.le_refl _) (cntRow none 0 0 none 0 0)
  have hr0 := heap_alloc_new w (cntRow none 0 0 none 0 0)
  have hmk := fun w => run_make_row' (P := Try.prog) 22 3 (.int .i64 0) 8 Try.underlying22 int_row rfl .i64 .i64 n (by omega) (by omega) w
  have hg1 : decide ((n : Int) < 1) = false := by simp; omega
  have hg2 : decide ((32 : Int) < (n : Int)) = false := by simp; omega
  have hg3 : ¬ (n : Int) < 1 := by omega
  have hg4 : ¬ (32 : Int) < (n : Int) := by omega
  have hg5 : decide (32 < n) = false := by simp; omega
  have hnm : n ≤ maxLen := by unfold maxLen; omega
  have HPO := Lib.hid (fun W => lpossible_any (n : Int) W)
  rw [decide_eq_true (show 1 ≤ (n : Int) ∧ (n : Int) ≤ 32 by omega)] at HPO
  go_enter Try.func10, Try.ntmps10
  generalize hw0 : w.alloc (cntRow none 0 0 none 0 0) = w0 at *
  have hz0 : w.heap.size < w0.heap.size := e_lt hr0
  go_wp2_with (first
    | (go_at_call 29; ((with_reducible refine (HPO.out _).mono ?_); rintro r9 w1 ⟨rfl, rfl⟩)))
  refine Tree.start (fun _ => True) (.take 0 (.take 2 (.fork 1 (.only 3 (.take 4 (.only 5 (.take 6 (.done))))) 3 (.only 1 (.take 4 (.only 5 (.take 6 (.done)))))))) (by kernel_rfl) (by kernel_rfl) (by kernel_rfl) (by kernel_rfl) trivial ?_
  simp only [Tree.T.map, List.getElem?_toArray, List.getElem?_cons_zero, List.getElem?_cons_succ]
  repeat (first | (refine Tree.take ?_ (by rfl) ?_ ?_; rotate_left; (· rintro w9 _; go_simp; (try rw [if_neg (by omega)]); all_goals (with_reducible rfl)); simp only [Act.put, List.setIfInBounds_toArray, List.set_cons_zero, List.set_cons_succ]))
  have c1 : Below w.heap.size w (w0.drew.alloc (zeroRow n)) := hA.drew.alloc hA.drew.size (zeroRow n)
  have c2 := c1.alloc c1.size (zeroRow n)
  have s1 : (w0.drew.alloc (zeroRow n)).heap.size = w0.heap.size + 1 := by simp only [World.size_alloc]; rfl
  have g1 := heap_first w0.drew (zeroRow n) (zeroRow n)
  have g2 := heap_second w0.drew (zeroRow n) (zeroRow n)
  have r2 : ((w0.drew.alloc (zeroRow n)).alloc (zeroRow n)).heap[w.heap.size]? = some (cntRow none 0 0 none 0 0) := e_al (e_al (show w0.drew.heap[w.heap.size]? = _ from hr0) _) _
  refine Tree.fork (by rfl) (by rfl) ?_ ?_
  · refine Tree.wp_make (.slice (some ⟨w0.heap.size, 0, none⟩) n n) (w0.drew.alloc (zeroRow n)) ?_ ⟨trivial, ?_⟩
    · go_simp
    simp only [Act.put, List.setIfInBounds_toArray, List.set_cons_zero, List.set_cons_succ]
    refine Tree.only (by rfl) ?_
    refine Tree.wp_make (.slice (some ⟨w0.heap.size + 1, 0, none⟩) n n) ((w0.drew.alloc (zeroRow n)).alloc (zeroRow n)) ?_ ⟨trivial, ?_⟩
    · go_simp
    simp only [Act.put, List.setIfInBounds_toArray, List.set_cons_zero, List.set_cons_succ]
    repeat (first | (refine Tree.take ?_ (by rfl) ?_ ?_; rotate_left; (· rintro w9 _; go_simp; (try rw [if_neg (by omega)]); all_goals (with_reducible rfl)); simp only [Act.put, List.setIfInBounds_toArray, List.set_cons_zero, List.set_cons_succ]))
    refine Tree.only (by rfl) (wp_store_row 24 _ _ rfl w.heap.size #[.slice (some ⟨w0.heap.size, 0, none⟩) n n, .slice (some ⟨w0.heap.size + 1, 0, none⟩) n n] (by rfl) (by rfl) 24 _ r2 cnt_info rfl (by simp [Value.oneCell']) ⟨trivial, ?_⟩)
    simp only [Act.put]
    repeat (first | (refine Tree.take ?_ (by rfl) ?_ ?_; rotate_left; (· rintro w9 _; go_simp; (try rw [if_neg (by omega)]); all_goals (with_reducible rfl)); simp only [Act.put, List.setIfInBounds_toArray, List.set_cons_zero, List.set_cons_succ]))
    refine Tree.ends ?_
    have q1 := (setRow_other _ w.heap.size w0.heap.size #[.slice (some ⟨w0.heap.size, 0, none⟩) n n, .slice (some ⟨w0.heap.size + 1, 0, none⟩) n n] (by omega)).trans g1
    have q2 := (setRow_other _ w.heap.size (w0.heap.size + 1) #[.slice (some ⟨w0.heap.size, 0, none⟩) n n, .slice (some ⟨w0.heap.size + 1, 0, none⟩) n n] (by omega)).trans g2
    have r3 := setRow_heap _ w.heap.size _ #[.slice (some ⟨w0.heap.size, 0, none⟩) n n, .slice (some ⟨w0.heap.size + 1, 0, none⟩) n n] _ _ r2
    have c3 := below_setRow c2 (Nat.le_refl _) #[.slice (some ⟨w0.heap.size, 0, none⟩) n n, .slice (some ⟨w0.heap.size + 1, 0, none⟩) n n]
    generalize ((w0.drew.alloc (zeroRow n)).alloc (zeroRow n)).setRow w.heap.size #[.slice (some ⟨w0.heap.size, 0, none⟩) n n, .slice (some ⟨w0.heap.size + 1, 0, none⟩) n n] = w3 at *
    clear hmk r2 g1 g2
    go_wp2_with fail
    exact bodyPost_ret (Plan.results_cell_tmp (p := 2) (q := 3) rfl _ _ _ _ _ _ _ rfl (r3) Try.underlying24 rfl cnt_info) rfl ⟨_, _, by omega, by omega, by omega, rfl, q1, q2, c3⟩
  · refine Tree.wp_make (.slice (some ⟨w0.heap.size, 0, none⟩) n n) (w0.drew.alloc (zeroRow n)) ?_ ⟨trivial, ?_⟩
    · go_simp
    simp only [Act.put, List.setIfInBounds_toArray, List.set_cons_zero, List.set_cons_succ]
    refine Tree.only (by rfl) ?_
    refine Tree.wp_make (.slice (some ⟨w0.heap.size + 1, 0, none⟩) n n) ((w0.drew.alloc (zeroRow n)).alloc (zeroRow n)) ?_ ⟨trivial, ?_⟩
    · go_simp
    simp only [Act.put, List.setIfInBounds_toArray, List.set_cons_zero, List.set_cons_succ]
    repeat (first | (refine Tree.take ?_ (by rfl) ?_ ?_; rotate_left; (· rintro w9 _; go_simp; (try rw [if_neg (by omega)]); all_goals (with_reducible rfl)); simp only [Act.put, List.setIfInBounds_toArray, List.set_cons_zero, List.set_cons_succ]))
    refine Tree.only (by rfl) (wp_store_row 24 _ _ rfl w.heap.size #[.slice (some ⟨w0.heap.size + 1, 0, none⟩) n n, .slice (some ⟨w0.heap.size, 0, none⟩) n n] (by rfl) (by rfl) 24 _ r2 cnt_info rfl (by simp [Value.oneCell']) ⟨trivial, ?_⟩)
    simp only [Act.put]
    repeat (first | (refine Tree.take ?_ (by rfl) ?_ ?_; rotate_left; (· rintro w9 _; go_simp; (try rw [if_neg (by omega)]); all_goals (with_reducible rfl)); simp only [Act.put, List.setIfInBounds_toArray, List.set_cons_zero, List.set_cons_succ]))
    refine Tree.ends ?_
    have q1 := (setRow_other _ w.heap.size w0.heap.size #[.slice (some ⟨w0.heap.size + 1, 0, none⟩) n n, .slice (some ⟨w0.heap.size, 0, none⟩) n n] (by omega)).trans g1
    have q2 := (setRow_other _ w.heap.size (w0.heap.size + 1) #[.slice (some ⟨w0.heap.size + 1, 0, none⟩) n n, .slice (some ⟨w0.heap.size, 0, none⟩) n n] (by omega)).trans g2
    have r3 := setRow_heap _ w.heap.size _ #[.slice (some ⟨w0.heap.size + 1, 0, none⟩) n n, .slice (some ⟨w0.heap.size, 0, none⟩) n n] _ _ r2
    have c3 := below_setRow c2 (Nat.le_refl _) #[.slice (some ⟨w0.heap.size + 1, 0, none⟩) n n, .slice (some ⟨w0.heap.size, 0, none⟩) n n]
    generalize ((w0.drew.alloc (zeroRow n)).alloc (zeroRow n)).setRow w.heap.size #[.slice (some ⟨w0.heap.size + 1, 0, none⟩) n n, .slice (some ⟨w0.heap.size, 0, none⟩) n n] = w3 at *
    clear hmk r2 g1 g2
    go_wp2_with fail
    exact bodyPost_ret (Plan.results_cell_tmp (p := 2) (q := 3) rfl _ _ _ _ _ _ _ rfl (r3) Try.underlying24 rfl cnt_info) rfl ⟨_, _, by omega, by omega, by omega, rfl, q2, q1, c3⟩
set_option maxHeartbeats 2000000 in
set_option maxRecDepth 20000 in
theorem lnew_any (s : Int) (w : World) : Calls Try.prog 10 #[.int .i64 s] w (CNewPost w (newC s) (newCE s)) := by
  have hA := (Below.refl w.heap.size w).alloc (Nat.le_refl _) (cntRow none 0 0 none 0 0)
  have hr0 := heap_alloc_new w (cntRow none 0 0 none 0 0)
  by_cases hs : 1 ≤ s ∧ s ≤ 32
  · obtain ⟨n, rfl⟩ : ∃ n : Nat, s = (n : Int) := ⟨s.toNat, by omega⟩
    have h1 : newC (n : Int) = ⟨List.replicate n 0, List.replicate n 0⟩ := by unfold newC; rw [if_pos hs, Int.toNat_natCast]
    have h2 : newCE (n : Int) = 0 := if_pos hs
    rw [h1, h2]
    have hnm : n ≤ maxLen := by unfold maxLen; omega
    refine (lnew_some n (by omega) (by omega) w).mono ?_
    rintro r w9 ⟨g, g2, k1, k2, _, rfl, q1, q2, hb⟩
    exact ⟨_, _, _, _, _, _, rfl, ⟨zeros_ilist q1 hnm k1, zeros_ilist q2 hnm k2⟩, hb⟩
  · have h1 : newC s = ⟨[], []⟩ := if_neg hs
    have h2 : newCE s = 1 := if_neg hs
    rw [h1, h2]
    clear h1 h2
    have HPO := Lib.hid (fun W => lpossible_any s W)
    rw [decide_eq_false hs] at HPO
    go_enter Try.func10, Try.ntmps10
    go_wp2_with (first
      | (go_at_call 29; ((with_reducible refine (HPO.out _).mono ?_); rintro r9 w1 ⟨rfl, rfl⟩))
      | ((with_reducible refine Plan.store_lit 24 (.tmp 2) _ (w.heap.size) ?_ hr0 ?_ ?_ ?_ ?_ ?_ ?_); rotate_left; (· rfl); (· rfl); (· exact cnt_info); (· rfl); (· simp [Value.oneCell']); simp only [Act.put]))
    exact bodyPost_ret (Plan.results_cell_tmp (p := 2) (q := 3) rfl _ _ _ _ _ _ _ rfl (setRow_heap _ _ _ _ _ _ hr0) Try.underlying24 rfl cnt_info) rfl ⟨_, _, _, _, _, _, rfl, ⟨IList.nil _ _, IList.nil _ _⟩, below_setRow hA (Nat.le_refl _) _⟩
set_option maxHeartbeats 8000000 in
set_option maxRecDepth 20000 in
theorem lof_any (F : Nat → Prop) (L : List Ent) (a : Option Addr) (n c : Nat) (s : Int) (w : World) (hl : EList w F a n c L) (hn : n ≤ 1000000) :
    Calls Try.prog 16 #[.int .i64 s, .slice a n c] w (COfPost w s L) := by
  have hA := (Below.refl w.heap.size w).alloc (Nat.le_refl _) (cntRow none 0 0 none 0 0)
  have hr0 := heap_alloc_new w (cntRow none 0 0 none 0 0)
  have hlen := hl.length
  by_cases hs : 1 ≤ s ∧ s ≤ 32
  · obtain ⟨m, rfl⟩ : ∃ m : Nat, s = (m : Int) := ⟨s.toNat, by omega⟩
    unfold COfPost
    have hm1 : 1 ≤ m := by omega
    have hm2 : m ≤ 32 := by omega
    have HN := Lib.hid (fun W => lnew_some m hm1 hm2 W)
    have HENT := Lib.hid (fun W (h : Below w.heap.size w W) i (hi : i < n) => (hl.on (Same.below h)).ent i hi)
    have hmx : m ≤ maxLen := by unfold maxLen; omega
    have hcap := hl.cap
    unfold maxLen at hcap
    have hlow : n ≤ 1000000 := hn
    clear hl
    go_enter Try.func16, Try.ntmps16
    generalize hw0 : w.alloc (cntRow none 0 0 none 0 0) = w0 at *
    go_wp2_with (first
      | (go_at_call 10; ((with_reducible refine (HN.out _).mono ?_); rintro r9 w1 ⟨g, g2, k1, k2, k3, rfl, q1, q2, h1⟩; have b1 := hA.trans (h1.mono hA.size); have hr1 := e_on h1 hr0 (e_lt hr0); have k4 := e_lt hr0; clear hr0 hA h1 HN hw0)))
    rw [zero_row] at q1 q2
    have hX := heap_alloc_new w1 (cntRow (some ⟨g, 0, none⟩) m m (some ⟨g2, 0, none⟩) m m)
    have b2 := b1.alloc b1.size (cntRow (some ⟨g, 0, none⟩) m m (some ⟨g2, 0, none⟩) m m)
    have hr2 := e_al hr1 (cntRow (some ⟨g, 0, none⟩) m m (some ⟨g2, 0, none⟩) m m)
    have p1 := e_al q1 (cntRow (some ⟨g, 0, none⟩) m m (some ⟨g2, 0, none⟩) m m)
    have p2 := e_al q2 (cntRow (some ⟨g, 0, none⟩) m m (some ⟨g2, 0, none⟩) m m)
    have k5 := e_lt q1
    have k6 := e_lt q2
    have k7 : w.heap.size < g := by omega
    have k8 : w.heap.size < g2 := by omega
    obtain ⟨X, hXe⟩ : ∃ X, X = w1.heap.size := ⟨_, rfl⟩
    rw [← hXe] at hX k5 k6
    rw [← hXe]
    generalize w1.alloc (cntRow (some ⟨g, 0, none⟩) m m (some ⟨g2, 0, none⟩) m m) = w2 at *
    clear q1 q2 hr1 b1 hXe k1 k2 k4
    go_loopw [20] (fun x wr => ∃ j : Nat, x = .int .i64 (j : Int) ∧ j ≤ n ∧ RowKit.Hid (inZ (m : Int) (L.take j) = true) ∧ wr.heap[w.heap.size]? = some (cntRow none 0 0 none 0 0) ∧ wr.heap[X]? = some (cntRow (some ⟨g, 0, none⟩) m m (some ⟨g2, 0, none⟩) m m) ∧ wr.heap[g]? = some (intRow (countL (List.replicate m 0) (L.take j))) ∧ wr.heap[g2]? = some (intRow (List.replicate m 0)) ∧ Below w.heap.size w wr) (fun x _ => n - (intOf x).toNat)
    case atStart => exact ⟨0, rfl, by omega, Lib.hid rfl, hr2, hX, p1, p2, b2⟩
    case round =>
      clear hr2 hX p1 p2 b2
      obtain ⟨j, rfl, hj, hin, hr, hx, hg, hp, hb⟩ := hrel
      have hCl : (countL (List.replicate m 0) (L.take j)).length = m := by rw [count_len, List.length_replicate]
      by_cases hlt : j < n
      · obtain ⟨x, e, rfl, he, hat⟩ := HENT.out wr hb j hlt
        have hjI : (j : Int) < (n : Int) := by omega
        have HNEXT := Lib.hid (fun h => in_next he hin.out h)
        have HNOT := Lib.hid (fun h => in_not (z := (m : Int)) he h)
        have HCN := Lib.hid (count_next (l := List.replicate m 0) he)
        have HB := Lib.hid (count_bound m L j (by omega))
        clear he
        obtain ⟨b, k, v, mv, z, o⟩ := e
        try simp only at hat HNEXT HNOT HCN
        obtain ⟨u0, u1, u2, u3, u4, u5⟩ := hat
        have HH := Lib.hid (fun W => isZone_any z (some ⟨g, 0, none⟩) (some ⟨g2, 0, none⟩) m m m m W)
        generalize countL (List.replicate m 0) (L.take j) = Z at *
        have q0 := hb.alloc hb.size (entRow b k v mv z o)
        have hr0 := e_al hr (entRow b k v mv z o)
        have hx0 := e_al hx (entRow b k v mv z o)
        have hg0 := e_al hg (entRow b k v mv z o)
        have hp0 := e_al hp (entRow b k v mv z o)
        have he0 := heap_alloc_new wr (entRow b k v mv z o)
        by_cases hz : 0 ≤ z ∧ z < (m : Int)
        · obtain ⟨q, rfl⟩ : ∃ q : Nat, z = (q : Int) := ⟨z.toNat, by omega⟩
          have HI := Lib.hid (HNEXT.out hz)
          have hq : q < m := by omega
          have hqI : (q : Int) < (m : Int) := hz.2
          rw [decide_eq_true hz] at HH
          clear HNEXT HNOT hz hr hg hp hb
          obtain ⟨y, hy⟩ : ∃ y, Z[q]? = some y := ⟨_, List.getElem?_eq_getElem (by omega)⟩
          have hyb := HB.out y (List.mem_of_getElem? hy)
          have HP := Lib.hid (plus_is hy 1)
          have HY := Lib.hid hy
          have hwr : IntKind.i64.wrap (y + 1) = y + 1 := IntWalk.i64_in _ (by omega)
          have hwr2 : wrap64 (y + 1) = y + 1 := by unfold wrap64; omega
          clear hy HB
          go_wp2_with (first
            | ((with_reducible refine Plan.load_lit 24 (.tmp 6) X ?_ hx0 Try.underlying24 ?_ ?_ ?_); (· rfl); (· rfl); (· exact cnt_info); simp only [Act.put, List.setIfInBounds_toArray, List.set_cons_zero, List.set_cons_succ])
            | (go_at_call 32; ((with_reducible refine (HH.out _).mono ?_); rintro r9 v1 ⟨rfl, h9⟩; have b9 := q0.trans (h9.mono q0.size); have hr9 := e_on h9 hr0 (e_lt hr0); have hx9 := e_on h9 hx0 (e_lt hx0); have hg9 := e_on h9 hg0 (e_lt hg0); have hp9 := e_on h9 hp0 (e_lt hp0); have he9 := e_on h9 he0 (e_lt he0); have hgc := row_cell hg9 HY.out; have hgf := free_row_c (o := q) hg9; obtain ⟨s0, s1⟩ := two_row hx9; obtain ⟨t0, t1, t2, t3, t4, t5⟩ := entry_row he9; clear hr0 hx0 hg0 hp0 he0 q0 h9 HH u0 u1 u2 u3 u4 u5 hx he9)))
          rw [setCell_eq_setRow _ _ _ _ _ _ _ hg9]
          have e9 : (intC Z).toArray.setIfInBounds q (.int .i64 (y + 1)) = (intC (plusL Z q 1)).toArray := by rw [List.setIfInBounds_toArray, intC_set, HP.out]
          rw [e9]
          have r3 := (setRow_other v1 g w.heap.size (intC (plusL Z q 1)).toArray (by omega)).trans hr9
          have x3 := (setRow_other v1 g X (intC (plusL Z q 1)).toArray (by omega)).trans hx9
          have p3 := (setRow_other v1 g g2 (intC (plusL Z q 1)).toArray (Ne.symm k3)).trans hp9
          have g3 := setRow_heap v1 g _ (intC (plusL Z q 1)).toArray _ _ hg9
          have b3 := below_setRow b9 (show w.heap.size ≤ g by omega) (intC (plusL Z q 1)).toArray
          generalize v1.setRow g (intC (plusL Z q 1)).toArray = v2 at *
          clear hgc hgf e9 hg9 hr9 hx9 hp9 b9 HP hwr hwr2 s0 s1 t0 t1 t2 t3 t4 t5
          go_roundw
          case rel => exact ⟨j + 1, by go_num, by omega, HI, r3, x3, by rw [HCN.out, Int.toNat_natCast]; exact g3, p3, b3⟩
          case measure => simp [intOf]; omega
        · have HR := Lib.hid (HNOT.out hz)
          rw [decide_eq_false hz] at HH
          clear HNEXT HNOT hz HB HCN hr hg hp hb
          go_wp2_with (first
            | ((with_reducible refine Plan.load_lit 24 (.tmp 6) X ?_ hx0 Try.underlying24 ?_ ?_ ?_); (· rfl); (· rfl); (· exact cnt_info); simp only [Act.put, List.setIfInBounds_toArray, List.set_cons_zero, List.set_cons_succ])
            | (go_at_call 32; ((with_reducible refine (HH.out _).mono ?_); rintro r9 v1 ⟨rfl, h9⟩; have b9 := q0.trans (h9.mono q0.size); have hr9 := e_on h9 hr0 (e_lt hr0); clear hr0 hx0 hg0 hp0 he0 q0 h9 HH u0 u1 u2 u3 u4 u5 hx))
            | ((with_reducible refine Plan.store_lit 24 (.tmp 4) _ (w.heap.size) ?_ hr9 ?_ ?_ ?_ ?_ ?_ ?_); rotate_left; (· rfl); (· rfl); (· exact cnt_info); (· rfl); (· simp [Value.oneCell']); simp only [Act.put]))
          have hB : ofB (m : Int) L = false := by unfold ofB; rw [HR.out, Bool.and_false]
          have hC : ofC (m : Int) L = ⟨[], []⟩ := by unfold ofC; rw [hB]; rfl
          exact bodyPost_ret (Plan.results_cell_tmp (p := 4) (q := 5) rfl _ _ _ _ _ _ _ rfl (setRow_heap _ _ _ _ _ _ hr9) Try.underlying24 rfl cnt_info) rfl ⟨_, _, _, _, _, _, by rw [hB]; rfl, by rw [hC]; exact ⟨IList.nil _ _, IList.nil _ _⟩, below_setRow b9 (Nat.le_refl _) _⟩
      · obtain rfl : j = n := by omega
        have hB : ofB (m : Int) L = true := by
          have h1 := hin.out
          rw [List.take_of_length_le (by omega)] at h1
          unfold ofB
          rw [h1]
          simp
          omega
        have hC : ofC (m : Int) L = ⟨countL (List.replicate m 0) (L.take j), List.replicate m 0⟩ := by unfold ofC; rw [hB, List.take_of_length_le (by omega)]; rfl
        have HBC := Lib.hid (And.intro hB hC)
        clear hB hC HENT hin
        have hrI : ¬ (j : Int) < (j : Int) := by omega
        generalize countL (List.replicate m 0) (L.take j) = Z at *
        go_wp2_with (first
          | ((with_reducible refine Plan.load_lit 24 (.tmp 6) X ?_ hx Try.underlying24 ?_ ?_ ?_); (· rfl); (· rfl); (· exact cnt_info); simp only [Act.put, List.setIfInBounds_toArray, List.set_cons_zero, List.set_cons_succ])
          | ((with_reducible refine Plan.store_lit 24 (.tmp 4) _ (w.heap.size) ?_ hr ?_ ?_ ?_ ?_ ?_ ?_); rotate_left; (· rfl); (· rfl); (· exact cnt_info); (· rfl); (· simp [Value.oneCell']); simp only [Act.put]))
        have g3 := (setRow_other wr w.heap.size g #[.slice (some ⟨g, 0, none⟩) m m, .slice (some ⟨g2, 0, none⟩) m m] (by omega)).trans hg
        have p3 := (setRow_other wr w.heap.size g2 #[.slice (some ⟨g, 0, none⟩) m m, .slice (some ⟨g2, 0, none⟩) m m] (by omega)).trans hp
        exact bodyPost_ret (Plan.results_cell_tmp (p := 4) (q := 5) rfl _ _ _ _ _ _ _ rfl (setRow_heap _ _ _ _ _ _ hr) Try.underlying24 rfl cnt_info) rfl ⟨_, _, _, _, _, _, by rw [HBC.out.1]; rfl, by rw [HBC.out.2]; exact ⟨row_ilist g3 hCl hmx (by omega), row_ilist p3 (List.length_replicate ..) hmx (by omega)⟩, below_setRow hb (Nat.le_refl _) _⟩
  · have h1 : newCE s = 1 := if_neg hs
    have HN := Lib.hid (fun W => lnew_any s W)
    have h2 : ofB s L = false := by unfold ofB; simp; omega
    have h3 : ofC s L = ⟨[], []⟩ := by unfold ofC; rw [h2]; rfl
    unfold COfPost
    rw [h2, h3]
    clear h2 h3 hl
    unfold CNewPost at HN
    rw [h1] at HN
    clear h1
    go_enter Try.func16, Try.ntmps16
    generalize hw0 : w.alloc (cntRow none 0 0 none 0 0) = w0 at *
    go_wp2_with (first
      | (go_at_call 10; ((with_reducible refine (HN.out _).mono ?_); rintro r9 w1 ⟨x1, x2, x3, x4, x5, x6, rfl, _, h1⟩; have b1 := hA.trans (h1.mono hA.size); have hr1 := e_on h1 hr0 (e_lt hr0)))
      | ((with_reducible refine Plan.store_lit 24 (.tmp 4) _ (w.heap.size) ?_ (e_al hr1 _) ?_ ?_ ?_ ?_ ?_ ?_); rotate_left; (· rfl); (· rfl); (· exact cnt_info); (· rfl); (· simp [Value.oneCell']); simp only [Act.put]))
    exact bodyPost_ret (Plan.results_cell_tmp (p := 4) (q := 5) rfl _ _ _ _ _ _ _ rfl (setRow_heap _ _ _ _ _ _ (e_al hr1 _)) Try.underlying24 rfl cnt_info) rfl ⟨_, _, _, _, _, _, rfl, ⟨IList.nil _ _, IList.nil _ _⟩, below_setRow (b1.alloc b1.size _) (Nat.le_refl _) _⟩
end Go.Proofs.Ytigmjpkhpoolkaa.Ents
