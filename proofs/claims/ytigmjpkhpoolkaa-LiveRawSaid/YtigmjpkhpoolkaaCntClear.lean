
/- The walks of the document's Clear, Change of counters. -/
import Derived.Test.YtigmjpkhpoolkaaCntNew
namespace Go.Proofs.Ytigmjpkhpoolkaa.Ents
open Go.RowKit Plan EntMath CntMath
/-- a load of a whole struct under a guard -/
theorem load_lit_gc {P : Program} {ops : Array Oper} {rest : List Oper} {a : Act} {w : World} {Q : Exit → Act → World → Prop} (ty : TypeId) (x : Operand) {dst : Option Tmp} {t' : TypeId} {pos : String} {after : Array Edge} {j : Nat} {y : Bool}
    (g : Nat) {t : TypeId} {cs : Array Value} {fr : Nat × Nat} {d : TypeDesc} (hw : Region.wanted ⟨dst, .load ty x, t', pos, after, some (j, y)⟩ (yielded ops a.tmps) = true) (hx : a.eval x = .pointer (some ⟨g, 0, none⟩)) (hg : w.heap[g]? = some (.cells cs t fr))
    (hu : P.underlying ty = some d) (hd : (match d with | .struct _ | .array _ _ => true | _ => false) = true) (hi : (P.info? ty).map (·.size) = some cs.size)
    (h : wpList P ops Q rest (a.put dst (.agg cs)) w) : wpList P ops Q (⟨dst, .load ty x, t', pos, after, some (j, y)⟩ :: rest) a w :=
  BigFrame.wpList_want hw fun _ hK => wp_load_row ty x rfl g hx t cs fr d hg hu hd hi (hK _ _ h)
theorem run_store_slice_c (w : World) (ty : TypeId) (b o : Nat) (sa : Option Addr) (sl sc : Nat) (hc : ∃ u, w.cell? ⟨b, o, none⟩ = some u) (hf : w.frozen? ⟨b, o, none⟩ = false) (hi : (Try.prog.info? ty).map (·.size) = some 1) :
    (storeVar ty ⟨b, o, none⟩ (.slice sa sl sc)).run Try.prog w = .ok () (w.setCell ⟨b, o, none⟩ (.slice sa sl sc)) := by
  obtain ⟨u, hu⟩ := hc
  cases hq : Try.prog.info? ty with
  | none => simp [hq] at hi
  | some i =>
    have hs : i.size = 1 := by simpa [hq] using hi
    have hst := run_store Try.prog w ⟨b, o, none⟩ (.slice sa sl sc) .plain rfl
    rw [hu, hf] at hst
    simp only [Bool.false_eq_true, if_false] at hst
    have ha : (⟨b, o, none⟩ : Addr).add 0 = ⟨b, o, none⟩ := by rw [Addr.add_lit, Nat.add_zero]
    simp [storeVar, sizeOf, typeInfo, hq, Value.cells, hs, storeCells, ha, hst]
theorem wp_store_slice_c {op : Oper} {a : Act} {w : World} {K : Act → World → Prop} {Q : Exit → Act → World → Prop} (ty : TypeId) (x y : Operand) (ho : op.op = .store ty x y)
    (b o : Nat) (sa : Option Addr) (sl sc : Nat) (hx : a.eval x = .pointer (some ⟨b, o, none⟩)) (hy : a.eval y = .slice sa sl sc) (hc : ∃ u, w.cell? ⟨b, o, none⟩ = some u) (hf : w.frozen? ⟨b, o, none⟩ = false) (hi : (Try.prog.info? ty).map (·.size) = some 1)
    (h : K (a.put op.dst undef) (w.setCell ⟨b, o, none⟩ (.slice sa sl sc))) : op.wp Try.prog a w K Q := by
  unfold Oper.wp execOp
  simp only [ho, hx, hy, Instr.storeAt, Instr.sureAddr, Sem.run_bind, Sem.run_pure, Result.andThen_ok, run_store_slice_c w ty b o sa sl sc hc hf hi]
  exact h
theorem store_slice_c {ops : Array Oper} {rest : List Oper} {a : Act} {w : World} {Q : Exit → Act → World → Prop} (ty : TypeId) (x y : Operand) {t' : TypeId} {pos : String} {after : Array Edge}
    (b o : Nat) (sa : Option Addr) (sl sc : Nat) (hx : a.eval x = .pointer (some ⟨b, o, none⟩)) (hy : a.eval y = .slice sa sl sc) (hc : ∃ u, w.cell? ⟨b, o, none⟩ = some u) (hf : w.frozen? ⟨b, o, none⟩ = false) (hi : (Try.prog.info? ty).map (·.size) = some 1)
    (h : wpList Try.prog ops Q rest (a.put none undef) (w.setCell ⟨b, o, none⟩ (.slice sa sl sc))) : wpList Try.prog ops Q (⟨none, .store ty x y, t', pos, after, none⟩ :: rest) a w :=
  wpList_plain rfl fun _ hK => wp_store_slice_c ty x y rfl b o sa sl sc hx hy hc hf hi (hK _ _ h)
theorem ints_info1 : (Try.prog.info? 22).map (·.size) = some 1 := by kernel_rfl
theorem free_row_c {w : World} {g o : Nat} {cs : Array Value} {t : TypeId} (h : w.heap[g]? = some (.cells cs t (0, 0))) : w.frozen? ⟨g, o, none⟩ = false := by simp [World.frozen?, h]
set_option maxHeartbeats 4000000 in
set_option maxRecDepth 20000 in
theorem refClear_any (F : Nat → Prop) (C : Cnt) (z : Int) (a a2 : Option Addr) (n c n2 c2 : Nat) (w : World) (hl : CList w F a n c a2 n2 c2 C) :
    Calls Try.prog 27 #[cntV a n c a2 n2 c2, .int .i64 z] w (CntPost w F C (clearB C z)) := by
  have hA := ((Below.refl w.heap.size w).alloc (Nat.le_refl _) (cntRow a n c a2 n2 c2)).alloc (by simp) (cntRow none 0 0 none 0 0)
  have hx0 := heap_first w (cntRow a n c a2 n2 c2) (cntRow none 0 0 none 0 0)
  have hr0 := heap_second w (cntRow a n c a2 n2 c2) (cntRow none 0 0 none 0 0)
  have HH := Lib.hid (fun W (h : Below w.heap.size w W) => refHas_any _ C z a a2 n c n2 c2 W (hl.same h))
  have HEND := Lib.hid (fun W (h : Below w.heap.size w W) (cs : Array Value) => (show CList (W.setRow (w.heap.size + 1) cs) (Plus F w.heap.size) a n c a2 n2 c2 C from
    ((hl.cut.on (Same.below (w' := W) h)).on (Same.row (r := w.heap.size + 1) (fun h9 => by have := h9.2; omega) cs)).mono (fun b _ h => .inl h.1)))
  cases hh : hasC C z
  · have hcl := (has_no hh).2.2
    rw [hcl]
    rw [hh] at HH
    clear hl hh hcl
    go_enter Try.func27, Try.ntmps27
    generalize hw0 : (w.alloc (cntRow a n c a2 n2 c2)).alloc (cntRow none 0 0 none 0 0) = w0 at *
    go_wp2_with fail
    refine Plan.start (fun W => (W.cell? ⟨w.heap.size, 0, none⟩ = some (.slice a n c) ∧ W.cell? ⟨w.heap.size, 1, none⟩ = some (.slice a2 n2 c2))) [(0, true), (1, true), (2, true), (3, false), (4, true), (5, true), (6, true), (7, true), (8, true), (9, true), (10, true), (11, true), (12, true), (13, true), (14, true), (15, true), (16, true), (17, true), (18, true), (19, true), (20, false), (21, true)] (by kernel_rfl) (by kernel_rfl) (by kernel_rfl) (by kernel_rfl) (two_row hx0) ?_
    simp only [List.map_cons, List.map_nil, List.getElem?_toArray, List.getElem?_cons_zero, List.getElem?_cons_succ]
    repeat (first | (refine Plan.take ?_ (by rfl) ?_ ?_; rotate_left; (· rintro w9 ⟨u0, u1⟩; go_simp; (try rw [if_neg (by omega)]); all_goals (with_reducible rfl)); simp only [Act.put, List.setIfInBounds_toArray, List.set_cons_zero, List.set_cons_succ]) | (refine Plan.pass (by rfl) ?_; simp only [Act.put, List.setIfInBounds_toArray, List.set_cons_zero, List.set_cons_succ]))
    refine Plan.call (by rfl) 39 _ ?_ (HH.out _ hA.drew) ?_
    · go_simp
    rintro r9 w1 ⟨rfl, h1⟩
    have b1 := hA.drew.trans (h1.mono hA.drew.size)
    have hx1 := e_on h1 (show w0.drew.heap[w.heap.size]? = _ from hx0) (e_lt hx0)
    have hr1 := e_on h1 (show w0.drew.heap[w.heap.size + 1]? = _ from hr0) (e_lt hr0)
    refine ⟨_, rfl, (two_row hx1), ?_⟩
    simp only [Act.put, List.setIfInBounds_toArray, List.set_cons_zero, List.set_cons_succ]
    repeat (first | (refine Plan.take ?_ (by rfl) ?_ ?_; rotate_left; (· rintro w9 ⟨u0, u1⟩; go_simp; (try rw [if_neg (by omega)]); all_goals (with_reducible rfl)); simp only [Act.put, List.setIfInBounds_toArray, List.set_cons_zero, List.set_cons_succ]) | (refine Plan.pass (by rfl) ?_; simp only [Act.put, List.setIfInBounds_toArray, List.set_cons_zero, List.set_cons_succ]))
    have r3 := setRow_heap w1 (w.heap.size + 1) _ #[.slice a n c, .slice a2 n2 c2] _ _ hr1
    have x3 := (setRow_other w1 (w.heap.size + 1) w.heap.size #[.slice a n c, .slice a2 n2 c2] (by omega)).trans hx1
    have b3 := below_setRow b1 (show w.heap.size ≤ w.heap.size + 1 by omega) #[.slice a n c, .slice a2 n2 c2]
    refine Plan.store (by rfl) 24 (.tmp 4) (.tmp 6) rfl (w.heap.size + 1) #[.slice a n c, .slice a2 n2 c2] rfl rfl 24 _ hr1 cnt_info rfl (by simp [Value.oneCell']) (two_row x3) ?_
    simp only [Act.put]
    repeat (first | (refine Plan.take ?_ (by rfl) ?_ ?_; rotate_left; (· rintro w9 ⟨u0, u1⟩; go_simp; (try rw [if_neg (by omega)]); all_goals (with_reducible rfl)); simp only [Act.put, List.setIfInBounds_toArray, List.set_cons_zero, List.set_cons_succ]) | (refine Plan.pass (by rfl) ?_; simp only [Act.put, List.setIfInBounds_toArray, List.set_cons_zero, List.set_cons_succ]))
    refine Plan.ends ?_
    clear hx1 hr1 x3
    go_wp2_with fail
    exact bodyPost_ret (Plan.results_cell_tmp (p := 4) (q := 5) rfl _ _ _ _ _ _ _ rfl (r3) Try.underlying24 rfl cnt_info) rfl ⟨_, _, _, _, _, _, rfl, HEND.out _ b1 _, b3⟩
  · obtain ⟨k, rfl, rfl, hk, hn32, x, q, x2, p, rfl, rfl, hq, hp, bq, bp, hcx, hcp⟩ := has_at hl hh
    have hcl : clearB C (k : Int) = (decide (q = 0) && decide (p = 0)) := by unfold clearB; rw [hh, Int.toNat_natCast, getD_at hq, getD_at hp]; rfl
    rw [hcl]
    rw [hh] at HH
    have hkI : (k : Int) < (n : Int) := by omega
    have hxl : x.block < w.heap.size := by
      have := World.block_lt_of_cell? w _ hcx
      rwa [ent_add_block] at this
    have hx2l : x2.block < w.heap.size := by
      have := World.block_lt_of_cell? w _ hcp
      rwa [ent_add_block] at this
    have HCX := Lib.hid (fun W (h : Below w.heap.size w W) => (h.cell (show (x.add k).block < w.heap.size by rw [ent_add_block]; exact hxl)).trans hcx)
    have HCP := Lib.hid (fun W (h : Below w.heap.size w W) => (h.cell (show (x2.add k).block < w.heap.size by rw [ent_add_block]; exact hx2l)).trans hcp)
    clear hl hh hcx hcp hq hp hcl
    rcases (show (¬ q = 0) ∨ (q = 0 ∧ ¬ p = 0) ∨ (q = 0 ∧ p = 0) by omega) with g1 | ⟨g1, g2⟩ | ⟨g1, g2⟩
    · have t1 : (q == 0) = false := by simpa using g1
      rw [decide_eq_false g1, Bool.false_and]
      go_enter Try.func27, Try.ntmps27
      generalize hw0 : (w.alloc (cntRow (some x) n c (some x2) n c2)).alloc (cntRow none 0 0 none 0 0) = w0 at *
      go_wp2_with fail
      refine Plan.start (fun W => (W.cell? ⟨w.heap.size, 0, none⟩ = some (.slice (some x) n c) ∧ W.cell? ⟨w.heap.size, 1, none⟩ = some (.slice (some x2) n c2)) ∧ W.cell? (x.add k) = some (.int .i64 q) ∧ W.cell? (x2.add k) = some (.int .i64 p)) [(0, true), (1, true), (2, true), (3, false), (4, true), (5, true), (6, true), (7, true), (8, true), (9, true), (10, true), (11, true), (12, true), (13, true), (14, true), (15, true), (16, true), (17, true), (18, true), (19, true), (20, false), (21, true)] (by kernel_rfl) (by kernel_rfl) (by kernel_rfl) (by kernel_rfl) ⟨two_row hx0, HCX.out _ (hA.drew), HCP.out _ (hA.drew)⟩ ?_
      simp only [List.map_cons, List.map_nil, List.getElem?_toArray, List.getElem?_cons_zero, List.getElem?_cons_succ]
      repeat (first | (refine Plan.take ?_ (by rfl) ?_ ?_; rotate_left; (· rintro w9 ⟨⟨u0, u1⟩, u2, u3⟩; go_simp; (try rw [if_neg (by omega)]); all_goals (with_reducible rfl)); simp only [Act.put, List.setIfInBounds_toArray, List.set_cons_zero, List.set_cons_succ]) | (refine Plan.pass (by rfl) ?_; simp only [Act.put, List.setIfInBounds_toArray, List.set_cons_zero, List.set_cons_succ]))
      refine Plan.call (by rfl) 39 _ ?_ (HH.out _ hA.drew) ?_
      · go_simp
      rintro r9 w1 ⟨rfl, h1⟩
      have b1 := hA.drew.trans (h1.mono hA.drew.size)
      have hx1 := e_on h1 (show w0.drew.heap[w.heap.size]? = _ from hx0) (e_lt hx0)
      have hr1 := e_on h1 (show w0.drew.heap[w.heap.size + 1]? = _ from hr0) (e_lt hr0)
      refine ⟨_, rfl, ⟨two_row hx1, HCX.out _ (b1), HCP.out _ (b1)⟩, ?_⟩
      simp only [Act.put, List.setIfInBounds_toArray, List.set_cons_zero, List.set_cons_succ]
      repeat (first | (refine Plan.take ?_ (by rfl) ?_ ?_; rotate_left; (· rintro w9 ⟨⟨u0, u1⟩, u2, u3⟩; go_simp; (try rw [if_neg (by omega)]); all_goals (with_reducible rfl)); simp only [Act.put, List.setIfInBounds_toArray, List.set_cons_zero, List.set_cons_succ]) | (refine Plan.pass (by rfl) ?_; simp only [Act.put, List.setIfInBounds_toArray, List.set_cons_zero, List.set_cons_succ]))
      have r3 := setRow_heap w1 (w.heap.size + 1) _ #[.slice (some x) n c, .slice (some x2) n c2] _ _ hr1
      have x3 := (setRow_other w1 (w.heap.size + 1) w.heap.size #[.slice (some x) n c, .slice (some x2) n c2] (by omega)).trans hx1
      have b3 := below_setRow b1 (show w.heap.size ≤ w.heap.size + 1 by omega) #[.slice (some x) n c, .slice (some x2) n c2]
      refine Plan.store (by rfl) 24 (.tmp 4) (.tmp 6) rfl (w.heap.size + 1) #[.slice (some x) n c, .slice (some x2) n c2] rfl rfl 24 _ hr1 cnt_info rfl (by simp [Value.oneCell']) ⟨two_row x3, HCX.out _ (b3), HCP.out _ (b3)⟩ ?_
      simp only [Act.put]
      repeat (first | (refine Plan.take ?_ (by rfl) ?_ ?_; rotate_left; (· rintro w9 ⟨⟨u0, u1⟩, u2, u3⟩; go_simp; (try rw [if_neg (by omega)]); all_goals (with_reducible rfl)); simp only [Act.put, List.setIfInBounds_toArray, List.set_cons_zero, List.set_cons_succ]) | (refine Plan.pass (by rfl) ?_; simp only [Act.put, List.setIfInBounds_toArray, List.set_cons_zero, List.set_cons_succ]))
      refine Plan.ends ?_
      clear hx1 hr1 x3
      go_wp2_with fail
      exact bodyPost_ret (Plan.results_cell_tmp (p := 4) (q := 5) rfl _ _ _ _ _ _ _ rfl (r3) Try.underlying24 rfl cnt_info) rfl ⟨_, _, _, _, _, _, rfl, HEND.out _ b1 _, b3⟩
    · have t1 : (q == 0) = true := by simpa using g1
      have t2 : (p == 0) = false := by simpa using g2
      rw [decide_eq_true g1, decide_eq_false g2, Bool.true_and]
      go_enter Try.func27, Try.ntmps27
      generalize hw0 : (w.alloc (cntRow (some x) n c (some x2) n c2)).alloc (cntRow none 0 0 none 0 0) = w0 at *
      go_wp2_with fail
      refine Plan.start (fun W => (W.cell? ⟨w.heap.size, 0, none⟩ = some (.slice (some x) n c) ∧ W.cell? ⟨w.heap.size, 1, none⟩ = some (.slice (some x2) n c2)) ∧ W.cell? (x.add k) = some (.int .i64 q) ∧ W.cell? (x2.add k) = some (.int .i64 p)) [(0, true), (1, true), (2, true), (3, false), (4, true), (5, true), (6, true), (7, true), (8, true), (9, true), (10, true), (11, true), (12, true), (13, true), (14, true), (15, true), (16, true), (17, true), (18, true), (19, true), (20, false), (21, true)] (by kernel_rfl) (by kernel_rfl) (by kernel_rfl) (by kernel_rfl) ⟨two_row hx0, HCX.out _ (hA.drew), HCP.out _ (hA.drew)⟩ ?_
      simp only [List.map_cons, List.map_nil, List.getElem?_toArray, List.getElem?_cons_zero, List.getElem?_cons_succ]
      repeat (first | (refine Plan.take ?_ (by rfl) ?_ ?_; rotate_left; (· rintro w9 ⟨⟨u0, u1⟩, u2, u3⟩; go_simp; (try rw [if_neg (by omega)]); all_goals (with_reducible rfl)); simp only [Act.put, List.setIfInBounds_toArray, List.set_cons_zero, List.set_cons_succ]) | (refine Plan.pass (by rfl) ?_; simp only [Act.put, List.setIfInBounds_toArray, List.set_cons_zero, List.set_cons_succ]))
      refine Plan.call (by rfl) 39 _ ?_ (HH.out _ hA.drew) ?_
      · go_simp
      rintro r9 w1 ⟨rfl, h1⟩
      have b1 := hA.drew.trans (h1.mono hA.drew.size)
      have hx1 := e_on h1 (show w0.drew.heap[w.heap.size]? = _ from hx0) (e_lt hx0)
      have hr1 := e_on h1 (show w0.drew.heap[w.heap.size + 1]? = _ from hr0) (e_lt hr0)
      refine ⟨_, rfl, ⟨two_row hx1, HCX.out _ (b1), HCP.out _ (b1)⟩, ?_⟩
      simp only [Act.put, List.setIfInBounds_toArray, List.set_cons_zero, List.set_cons_succ]
      repeat (first | (refine Plan.take ?_ (by rfl) ?_ ?_; rotate_left; (· rintro w9 ⟨⟨u0, u1⟩, u2, u3⟩; go_simp; (try rw [if_neg (by omega)]); all_goals (with_reducible rfl)); simp only [Act.put, List.setIfInBounds_toArray, List.set_cons_zero, List.set_cons_succ]) | (refine Plan.pass (by rfl) ?_; simp only [Act.put, List.setIfInBounds_toArray, List.set_cons_zero, List.set_cons_succ]))
      have r3 := setRow_heap w1 (w.heap.size + 1) _ #[.slice (some x) n c, .slice (some x2) n c2] _ _ hr1
      have x3 := (setRow_other w1 (w.heap.size + 1) w.heap.size #[.slice (some x) n c, .slice (some x2) n c2] (by omega)).trans hx1
      have b3 := below_setRow b1 (show w.heap.size ≤ w.heap.size + 1 by omega) #[.slice (some x) n c, .slice (some x2) n c2]
      refine Plan.store (by rfl) 24 (.tmp 4) (.tmp 6) rfl (w.heap.size + 1) #[.slice (some x) n c, .slice (some x2) n c2] rfl rfl 24 _ hr1 cnt_info rfl (by simp [Value.oneCell']) ⟨two_row x3, HCX.out _ (b3), HCP.out _ (b3)⟩ ?_
      simp only [Act.put]
      repeat (first | (refine Plan.take ?_ (by rfl) ?_ ?_; rotate_left; (· rintro w9 ⟨⟨u0, u1⟩, u2, u3⟩; go_simp; (try rw [if_neg (by omega)]); all_goals (with_reducible rfl)); simp only [Act.put, List.setIfInBounds_toArray, List.set_cons_zero, List.set_cons_succ]) | (refine Plan.pass (by rfl) ?_; simp only [Act.put, List.setIfInBounds_toArray, List.set_cons_zero, List.set_cons_succ]))
      refine Plan.ends ?_
      clear hx1 hr1 x3
      go_wp2_with fail
      exact bodyPost_ret (Plan.results_cell_tmp (p := 4) (q := 5) rfl _ _ _ _ _ _ _ rfl (r3) Try.underlying24 rfl cnt_info) rfl ⟨_, _, _, _, _, _, rfl, HEND.out _ b1 _, b3⟩
    · have t1 : (q == 0) = true := by simpa using g1
      have t2 : (p == 0) = true := by simpa using g2
      rw [decide_eq_true g1, decide_eq_true g2, Bool.true_and]
      go_enter Try.func27, Try.ntmps27
      generalize hw0 : (w.alloc (cntRow (some x) n c (some x2) n c2)).alloc (cntRow none 0 0 none 0 0) = w0 at *
      go_wp2_with fail
      refine Plan.start (fun W => (W.cell? ⟨w.heap.size, 0, none⟩ = some (.slice (some x) n c) ∧ W.cell? ⟨w.heap.size, 1, none⟩ = some (.slice (some x2) n c2)) ∧ W.cell? (x.add k) = some (.int .i64 q) ∧ W.cell? (x2.add k) = some (.int .i64 p)) [(0, true), (1, true), (2, true), (3, false), (4, true), (5, true), (6, true), (7, true), (8, true), (9, true), (10, true), (11, true), (12, true), (13, true), (14, true), (15, true), (16, true), (17, true), (18, true), (19, true), (20, false), (21, true)] (by kernel_rfl) (by kernel_rfl) (by kernel_rfl) (by kernel_rfl) ⟨two_row hx0, HCX.out _ (hA.drew), HCP.out _ (hA.drew)⟩ ?_
      simp only [List.map_cons, List.map_nil, List.getElem?_toArray, List.getElem?_cons_zero, List.getElem?_cons_succ]
      repeat (first | (refine Plan.take ?_ (by rfl) ?_ ?_; rotate_left; (· rintro w9 ⟨⟨u0, u1⟩, u2, u3⟩; go_simp; (try rw [if_neg (by omega)]); all_goals (with_reducible rfl)); simp only [Act.put, List.setIfInBounds_toArray, List.set_cons_zero, List.set_cons_succ]) | (refine Plan.pass (by rfl) ?_; simp only [Act.put, List.setIfInBounds_toArray, List.set_cons_zero, List.set_cons_succ]))
      refine Plan.call (by rfl) 39 _ ?_ (HH.out _ hA.drew) ?_
      · go_simp
      rintro r9 w1 ⟨rfl, h1⟩
      have b1 := hA.drew.trans (h1.mono hA.drew.size)
      have hx1 := e_on h1 (show w0.drew.heap[w.heap.size]? = _ from hx0) (e_lt hx0)
      have hr1 := e_on h1 (show w0.drew.heap[w.heap.size + 1]? = _ from hr0) (e_lt hr0)
      refine ⟨_, rfl, ⟨two_row hx1, HCX.out _ (b1), HCP.out _ (b1)⟩, ?_⟩
      simp only [Act.put, List.setIfInBounds_toArray, List.set_cons_zero, List.set_cons_succ]
      repeat (first | (refine Plan.take ?_ (by rfl) ?_ ?_; rotate_left; (· rintro w9 ⟨⟨u0, u1⟩, u2, u3⟩; go_simp; (try rw [if_neg (by omega)]); all_goals (with_reducible rfl)); simp only [Act.put, List.setIfInBounds_toArray, List.set_cons_zero, List.set_cons_succ]) | (refine Plan.pass (by rfl) ?_; simp only [Act.put, List.setIfInBounds_toArray, List.set_cons_zero, List.set_cons_succ]))
      have r3 := setRow_heap w1 (w.heap.size + 1) _ #[.slice (some x) n c, .slice (some x2) n c2] _ _ hr1
      have x3 := (setRow_other w1 (w.heap.size + 1) w.heap.size #[.slice (some x) n c, .slice (some x2) n c2] (by omega)).trans hx1
      have b3 := below_setRow b1 (show w.heap.size ≤ w.heap.size + 1 by omega) #[.slice (some x) n c, .slice (some x2) n c2]
      refine Plan.store (by rfl) 24 (.tmp 4) (.tmp 6) rfl (w.heap.size + 1) #[.slice (some x) n c, .slice (some x2) n c2] rfl rfl 24 _ hr1 cnt_info rfl (by simp [Value.oneCell']) ⟨two_row x3, HCX.out _ (b3), HCP.out _ (b3)⟩ ?_
      simp only [Act.put]
      repeat (first | (refine Plan.take ?_ (by rfl) ?_ ?_; rotate_left; (· rintro w9 ⟨⟨u0, u1⟩, u2, u3⟩; go_simp; (try rw [if_neg (by omega)]); all_goals (with_reducible rfl)); simp only [Act.put, List.setIfInBounds_toArray, List.set_cons_zero, List.set_cons_succ]) | (refine Plan.pass (by rfl) ?_; simp only [Act.put, List.setIfInBounds_toArray, List.set_cons_zero, List.set_cons_succ]))
      refine Plan.ends ?_
      clear hx1 hr1 x3
      go_wp2_with fail
      exact bodyPost_ret (Plan.results_cell_tmp (p := 4) (q := 5) rfl _ _ _ _ _ _ _ rfl (r3) Try.underlying24 rfl cnt_info) rfl ⟨_, _, _, _, _, _, rfl, HEND.out _ b1 _, b3⟩
theorem change_no {C : Cnt} {o f : Int} {had is : Bool} (h : asksC C o f had is = false) : changeC C o f had is = C ∧ changeB C o f had is = false := by
  have h1 : changeB C o f had is = false := by unfold changeB; rw [h]; rfl
  exact ⟨by unfold changeC; rw [h1]; rfl, h1⟩
theorem change_yes {C : Cnt} {o f : Int} {had is : Bool} (h : asksC C o f had is = true) : changeB C o f had is = validC (changedC C o f had is) ∧ changeC C o f had is = if validC (changedC C o f had is) = true then changedC C o f had is else C := by
  have h1 : changeB C o f had is = validC (changedC C o f had is) := by unfold changeB; rw [h, Bool.true_and]
  exact ⟨h1, by unfold changeC; rw [h1]⟩
end Go.Proofs.Ytigmjpkhpoolkaa.Ents
