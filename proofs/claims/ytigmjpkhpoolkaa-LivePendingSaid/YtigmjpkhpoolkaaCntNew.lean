
/- The walks of the document's New, Begin, End, Clear of counters. -/
import Derived.Test.YtigmjpkhpoolkaaCntIs
import Derived.Test.YtigmjpkhpoolkaaBaseTree
namespace Go.Proofs.Ytigmjpkhpoolkaa.Ents
open Go.RowKit Plan EntMath CntMath
theorem made_zero (w : World) {n j : Nat} (hj : j < n) : (madeCells #[(.int .i64 0 : Value)] n)[j]? = some (.int .i64 0) := by
  have h1 := (World.rowIs_made w (.int .i64 0) n 3).cell hj
  have h2 := cell_of_row (w.alloc (.cells (madeCells #[(.int .i64 0 : Value)] n) 3)) w.heap.size j _ _ _ (heap_alloc_new w _)
  rw [h1] at h2
  exact h2.symm
abbrev zeroRow (n : Nat) : Obj := .cells (madeCells #[(.int .i64 0 : Value)] n) 3
theorem zeros_ilist {w : World} {F : Nat → Prop} {g n : Nat} (h : w.heap[g]? = some (zeroRow n)) (hn : n ≤ maxLen) (hF : F g) : IList w F (some ⟨g, 0, none⟩) n n (List.replicate n 0) := by
  refine .inr ⟨_, rfl, Nat.le_refl _, hn, by simp, e_lt h, hF, fun j z hz => ?_⟩
  have hj := (List.getElem?_eq_some_iff.1 hz).1
  rw [List.length_replicate] at hj
  rw [List.getElem?_replicate, if_pos hj] at hz
  obtain rfl := Option.some.inj hz
  have h2 := cell_of_row w g j _ _ _ h
  rw [made_zero w hj] at h2
  rw [Addr.add_lit, Nat.zero_add]
  exact h2
/-- what New leaves -/
def CNewPost (w : World) (C : Cnt) (E : Int) (r : Ending) (w' : World) : Prop :=
  ∃ a n c a2 n2 c2, r = .returned (.tuple #[cntV a n c a2 n2 c2, .int .i64 E]) ∧ CList w' (fun b => w.heap.size ≤ b) a n c a2 n2 c2 C ∧ Below w.heap.size w w'
theorem int_row : (Try.prog.info? 3).map (fun i => (i.zero, i.size, i.bytes)) = some (some (.int .i64 0), 1, 8) := int_info
/-- what New leaves where it makes counters: two different blocks of zeros -/
def CNewTwo (w : World) (n : Nat) (r : Ending) (w' : World) : Prop :=
  ∃ g g2, w.heap.size ≤ g ∧ w.heap.size ≤ g2 ∧ g ≠ g2 ∧ r = .returned (.tuple #[cntV (some ⟨g, 0, none⟩) n n (some ⟨g2, 0, none⟩) n n, .int .i64 0]) ∧ w'.heap[g]? = some (zeroRow n) ∧ w'.heap[g2]? = some (zeroRow n) ∧ Below w.heap.size w w'
set_option maxHeartbeats 2000000 in
set_option maxRecDepth 20000 in
theorem refCNew_some (n : Nat) (hs1 : 1 ≤ n) (hs2 : n ≤ 32) (w : World) : Calls Try.prog 42 #[.int .i64 (n : Int)] w (CNewTwo w n) := by
  have hA := (Below.refl w.heap.size w).alloc (Nat.le_refl _) (cntRow none 0 0 none 0 0)
  have hr0 := heap_alloc_new w (cntRow none 0 0 none 0 0)
  have hmk := fun w => run_make_row' (P := Try.prog) 22 3 (.int .i64 0) 8 Try.underlying22 int_row rfl .i64 .i64 n (by omega) (by omega) w
  have hg1 : decide ((n : Int) < 1) = false := by simp; omega
  have hg2 : decide ((32 : Int) < (n : Int)) = false := by simp; omega
  have hg3 : ¬ (n : Int) < 1 := by omega
  have hg4 : ¬ (32 : Int) < (n : Int) := by omega
  have hg5 : decide (32 < n) = false := by simp; omega
  have hnm : n ≤ maxLen := by unfold maxLen; omega
  go_enter Try.func42, Try.ntmps42
  generalize hw0 : w.alloc (cntRow none 0 0 none 0 0) = w0 at *
  have hz0 : w.heap.size < w0.heap.size := e_lt hr0
  go_wp2_with fail
  refine Tree.start (fun _ => True) (.take 0 (.take 2 (.fork 1 (.only 3 (.take 4 (.only 5 (.take 6 (.done))))) 3 (.only 1 (.take 4 (.only 5 (.take 6 (.done)))))))) (by kernel_rfl) (by kernel_rfl) (by kernel_rfl) (by kernel_rfl) trivial ?_
  simp only [Tree.T.map, List.getElem?_toArray, List.getElem?_cons_zero, List.getElem?_cons_succ]
  repeat (first | (refine Tree.take ?_ (by rfl) ?_ ?_; rotate_left; (· rintro w9 _; go_simp; (try rw [if_neg (by omega)]); all_goals (with_reducible rfl)); simp only [Act.put, List.setIfInBounds_toArray, List.set_cons_zero, List.set_cons_succ]))
  have c1 : Below w.heap.size w (w0.drew.alloc (zeroRow n)) := hA.drew.alloc hA.drew.size (zeroRow n)
  have c2 := c1.alloc c1.size (zeroRow n)
  have s1 : (w0.drew.alloc (zeroRow n)).heap.size = w0.heap.size + 1 := by simp only [World.size_alloc]; rfl
  have g1 := heap_first w0.drew (zeroRow n) (zeroRow n)
  have g2 := heap_second w0.drew (zeroRow n) (zeroRow n)
  have r2 : ((w0.drew.alloc (zeroRow n)).alloc (zeroRow n)).heap[w.heap.size]? = some (cntRow none 0 0 none 0 0) := e_al (e_al (show w0.drew.heap[w.heap.size]? = _ from hr0) _) _
  refine Tree.fork (by rfl) (by rfl) ?_ ?_
  · refine Tree.wp_make (.slice (some ⟨w0.heap.size, 0, none⟩) n n) (w0.drew.alloc (zeroRow n)) ?_ ⟨trivial, ?_⟩
    · go_simp
    simp only [Act.put, List.setIfInBounds_toArray, List.set_cons_zero, List.set_cons_succ]
    refine Tree.only (by rfl) ?_
    refine Tree.wp_make (.slice (some ⟨w0.heap.size + 1, 0, none⟩) n n) ((w0.drew.alloc (zeroRow n)).alloc (zeroRow n)) ?_ ⟨trivial, ?_⟩
    · go_simp
    simp only [Act.put, List.setIfInBounds_toArray, List.set_cons_zero, List.set_cons_succ]
    repeat (first | (refine Tree.take ?_ (by rfl) ?_ ?_; rotate_left; (· rintro w9 _; go_simp; (try rw [if_neg (by omega)]); all_goals (with_reducible rfl)); simp only [Act.put, List.setIfInBounds_toArray, List.set_cons_zero, List.set_cons_succ]))
    refine Tree.only (by rfl) (wp_store_row 24 _ _ rfl w.heap.size #[.slice (some ⟨w0.heap.size, 0, none⟩) n n, .slice (some ⟨w0.heap.size + 1, 0, none⟩) n n] (by rfl) (by rfl) 24 _ r2 cnt_info rfl (by simp [Value.oneCell']) ⟨trivial, ?_⟩)
    simp only [Act.put]
    repeat (first | (refine Tree.take ?_ (by rfl) ?_ ?_; rotate_left; (· rintro w9 _; go_simp; (try rw [if_neg (by omega)]); all_goals (with_reducible rfl)); simp only [Act.put, List.setIfInBounds_toArray, List.set_cons_zero, List.set_cons_succ]))
    refine Tree.ends ?_
    have q1 := (setRow_other _ w.heap.size w0.heap.size #[.slice (some ⟨w0.heap.size, 0, none⟩) n n, .slice (some ⟨w0.heap.size + 1, 0, none⟩) n n] (by omega)).trans g1
    have q2 := (setRow_other _ w.heap.size (w0.heap.size + 1) #[.slice (some ⟨w0.heap.size, 0, none⟩) n n, .slice (some ⟨w0.heap.size + 1, 0, none⟩) n n] (by omega)).trans g2
    have r3 := setRow_heap _ w.heap.size _ #[.slice (some ⟨w0.heap.size, 0, none⟩) n n, .slice (some ⟨w0.heap.size + 1, 0, none⟩) n n] _ _ r2
    have c3 := below_setRow c2 (Nat.le_refl _) #[.slice (some ⟨w0.heap.size, 0, none⟩) n n, .slice (some ⟨w0.heap.size + 1, 0, none⟩) n n]
    generalize ((w0.drew.alloc (zeroRow n)).alloc (zeroRow n)).setRow w.heap.size #[.slice (some ⟨w0.heap.size, 0, none⟩) n n, .slice (some ⟨w0.heap.size + 1, 0, none⟩) n n] = w3 at *
    clear hmk r2 g1 g2
    go_wp2_with fail
    exact bodyPost_ret (Plan.results_cell_tmp (p := 2) (q := 3) rfl _ _ _ _ _ _ _ rfl (r3) Try.underlying24 rfl cnt_info) rfl ⟨_, _, by omega, by omega, by omega, rfl, q1, q2, c3⟩
  · refine Tree.wp_make (.slice (some ⟨w0.heap.size, 0, none⟩) n n) (w0.drew.alloc (zeroRow n)) ?_ ⟨trivial, ?_⟩
    · go_simp
    simp only [Act.put, List.setIfInBounds_toArray, List.set_cons_zero, List.set_cons_succ]
    refine Tree.only (by rfl) ?_
    refine Tree.wp_make (.slice (some ⟨w0.heap.size + 1, 0, none⟩) n n) ((w0.drew.alloc (zeroRow n)).alloc (zeroRow n)) ?_ ⟨trivial, ?_⟩
    · go_simp
    simp only [Act.put, List.setIfInBounds_toArray, List.set_cons_zero, List.set_cons_succ]
    repeat (first | (refine Tree.take ?_ (by rfl) ?_ ?_; rotate_left; (· rintro w9 _; go_simp; (try rw [if_neg (by omega)]); all_goals (with_reducible rfl)); simp only [Act.put, List.setIfInBounds_toArray, List.set_cons_zero, List.set_cons_succ]))
    refine Tree.only (by rfl) (wp_store_row 24 _ _ rfl w.heap.size #[.slice (some ⟨w0.heap.size + 1, 0, none⟩) n n, .slice (some ⟨w0.heap.size, 0, none⟩) n n] (by rfl) (by rfl) 24 _ r2 cnt_info rfl (by simp [Value.oneCell']) ⟨trivial, ?_⟩)
    simp only [Act.put]
    repeat (first | (refine Tree.take ?_ (by rfl) ?_ ?_; rotate_left; (· rintro w9 _; go_simp; (try rw [if_neg (by omega)]); all_goals (with_reducible rfl)); simp only [Act.put, List.setIfInBounds_toArray, List.set_cons_zero, List.set_cons_succ]))
    refine Tree.ends ?_
    have q1 := (setRow_other _ w.heap.size w0.heap.size #[.slice (some ⟨w0.heap.size + 1, 0, none⟩) n n, .slice (some ⟨w0.heap.size, 0, none⟩) n n] (by omega)).trans g1
    have q2 := (setRow_other _ w.heap.size (w0.heap.size + 1) #[.slice (some ⟨w0.heap.size + 1, 0, none⟩) n n, .slice (some ⟨w0.heap.size, 0, none⟩) n n] (by omega)).trans g2
    have r3 := setRow_heap _ w.heap.size _ #[.slice (some ⟨w0.heap.size + 1, 0, none⟩) n n, .slice (some ⟨w0.heap.size, 0, none⟩) n n] _ _ r2
    have c3 := below_setRow c2 (Nat.le_refl _) #[.slice (some ⟨w0.heap.size + 1, 0, none⟩) n n, .slice (some ⟨w0.heap.size, 0, none⟩) n n]
    generalize ((w0.drew.alloc (zeroRow n)).alloc (zeroRow n)).setRow w.heap.size #[.slice (some ⟨w0.heap.size + 1, 0, none⟩) n n, .slice (some ⟨w0.heap.size, 0, none⟩) n n] = w3 at *
    clear hmk r2 g1 g2
    go_wp2_with fail
    exact bodyPost_ret (Plan.results_cell_tmp (p := 2) (q := 3) rfl _ _ _ _ _ _ _ rfl (r3) Try.underlying24 rfl cnt_info) rfl ⟨_, _, by omega, by omega, by omega, rfl, q2, q1, c3⟩
set_option maxHeartbeats 2000000 in
set_option maxRecDepth 20000 in
theorem refCNew_any (s : Int) (w : World) : Calls Try.prog 42 #[.int .i64 s] w (CNewPost w (newC s) (newCE s)) := by
  have hA := (Below.refl w.heap.size w).alloc (Nat.le_refl _) (cntRow none 0 0 none 0 0)
  have hr0 := heap_alloc_new w (cntRow none 0 0 none 0 0)
  by_cases hs : 1 ≤ s ∧ s ≤ 32
  · obtain ⟨n, rfl⟩ : ∃ n : Nat, s = (n : Int) := ⟨s.toNat, by omega⟩
    have h1 : newC (n : Int) = ⟨List.replicate n 0, List.replicate n 0⟩ := by unfold newC; rw [if_pos hs, Int.toNat_natCast]
    have h2 : newCE (n : Int) = 0 := if_pos hs
    rw [h1, h2]
    have hnm : n ≤ maxLen := by unfold maxLen; omega
    refine (refCNew_some n (by omega) (by omega) w).mono ?_
    rintro r w9 ⟨g, g2, k1, k2, _, rfl, q1, q2, hb⟩
    exact ⟨_, _, _, _, _, _, rfl, ⟨zeros_ilist q1 hnm k1, zeros_ilist q2 hnm k2⟩, hb⟩
  · have h1 : newC s = ⟨[], []⟩ := if_neg hs
    have h2 : newCE s = 1 := if_neg hs
    rw [h1, h2]
    clear h1 h2
    rcases (show s < 1 ∨ (¬ s < 1 ∧ 32 < s) by omega) with h | ⟨h, h3⟩
    · have d1 : decide (s < 1) = true := by simpa using h
      go_enter Try.func42, Try.ntmps42
      go_wp2_with (first
        | ((with_reducible refine Plan.store_lit 24 (.tmp 2) _ (w.heap.size) ?_ hr0 ?_ ?_ ?_ ?_ ?_ ?_); rotate_left; (· rfl); (· rfl); (· exact cnt_info); (· rfl); (· simp [Value.oneCell']); simp only [Act.put]))
      exact bodyPost_ret (Plan.results_cell_tmp (p := 2) (q := 3) rfl _ _ _ _ _ _ _ rfl (setRow_heap _ _ _ _ _ _ hr0) Try.underlying24 rfl cnt_info) rfl ⟨_, _, _, _, _, _, rfl, ⟨IList.nil _ _, IList.nil _ _⟩, below_setRow hA (Nat.le_refl _) _⟩
    · have d1 : decide (s < 1) = false := by simpa using h
      have d2 : decide (32 < s) = true := by simpa using h3
      go_enter Try.func42, Try.ntmps42
      go_wp2_with (first
        | ((with_reducible refine Plan.store_lit 24 (.tmp 2) _ (w.heap.size) ?_ hr0 ?_ ?_ ?_ ?_ ?_ ?_); rotate_left; (· rfl); (· rfl); (· exact cnt_info); (· rfl); (· simp [Value.oneCell']); simp only [Act.put]))
      exact bodyPost_ret (Plan.results_cell_tmp (p := 2) (q := 3) rfl _ _ _ _ _ _ _ rfl (setRow_heap _ _ _ _ _ _ hr0) Try.underlying24 rfl cnt_info) rfl ⟨_, _, _, _, _, _, rfl, ⟨IList.nil _ _, IList.nil _ _⟩, below_setRow hA (Nat.le_refl _) _⟩
/-- what a function that changes counters leaves -/
def CntPost (w : World) (F : Nat → Prop) (C : Cnt) (B : Bool) (r : Ending) (w' : World) : Prop :=
  ∃ a n c a2 n2 c2, r = .returned (.tuple #[cntV a n c a2 n2 c2, .bool B]) ∧ CList w' (Plus F w.heap.size) a n c a2 n2 c2 C ∧ Below w.heap.size w w'
theorem has_no {C : Cnt} {z : Int} (h : hasC C z = false) : (beginC C z = C ∧ beginB C z = false) ∧ (endC C z = C ∧ endB C z = false) ∧ clearB C z = false := by
  have h1 : beginB C z = false := by unfold beginB; rw [h]; rfl
  have h2 : endB C z = false := by unfold endB; rw [h]; rfl
  exact ⟨⟨by unfold beginC; rw [h1]; rfl, h1⟩, ⟨by unfold endC; rw [h2]; rfl, h2⟩, by unfold clearB; rw [h]; rfl⟩
theorem begin_is {C : Cnt} {k : Nat} {p : Int} (h : hasC C (k : Int) = true) (hp : C.pend[k]? = some p) : beginB C (k : Int) = decide (p ≠ 1099511627776) ∧ beginC C (k : Int) = if p = 1099511627776 then C else ⟨C.live, plusL C.pend k 1⟩ := by
  have h1 : beginB C (k : Int) = decide (p ≠ 1099511627776) := by unfold beginB; rw [h, Int.toNat_natCast, getD_at hp]; rfl
  refine ⟨h1, ?_⟩
  unfold beginC
  rw [h1]
  by_cases hq : p = 1099511627776
  · rw [if_pos hq, if_neg (by simpa using hq)]
  · rw [if_neg hq, if_pos (by simpa using hq)]
    rfl
theorem end_is {C : Cnt} {k : Nat} {p : Int} (h : hasC C (k : Int) = true) (hp : C.pend[k]? = some p) : endB C (k : Int) = decide (p ≠ 0) ∧ endC C (k : Int) = if p = 0 then C else ⟨C.live, plusL C.pend k (-1)⟩ := by
  have h1 : endB C (k : Int) = decide (p ≠ 0) := by unfold endB; rw [h, Int.toNat_natCast, getD_at hp]; rfl
  refine ⟨h1, ?_⟩
  unfold endC
  rw [h1]
  by_cases hq : p = 0
  · rw [if_pos hq, if_neg (by simpa using hq)]
  · rw [if_neg hq, if_pos (by simpa using hq)]
    rfl
theorem has_at {w : World} {F : Nat → Prop} {C : Cnt} {z : Int} {a a2 : Option Addr} {n c n2 c2 : Nat} (hl : CList w F a n c a2 n2 c2 C) (h : hasC C z = true) : ∃ k : Nat, z = (k : Int) ∧ n = n2 ∧ k < n ∧ n ≤ 32 ∧ ∃ x q x2 p, a = some x ∧ a2 = some x2 ∧ C.live[k]? = some q ∧ C.pend[k]? = some p ∧ (0 ≤ q ∧ q ≤ 1099511627776) ∧ (0 ≤ p ∧ p ≤ 1099511627776) ∧ w.cell? (x.add k) = some (.int .i64 q) ∧ w.cell? (x2.add k) = some (.int .i64 p) := by
  obtain ⟨hv, h0, h1⟩ := has_c.1 h
  have hvv := valid_c.1 hv
  have hln := hl.l.length
  have hpn := hl.p.length
  obtain ⟨k, rfl⟩ : ∃ k : Nat, z = (k : Int) := ⟨z.toNat, by omega⟩
  have hk : k < n := by omega
  obtain ⟨x, q, hx, hq, hc⟩ := hl.l.at' k hk
  obtain ⟨x2, p, hx2, hp, hc2⟩ := hl.p.at' k (by omega)
  exact ⟨k, rfl, by omega, hk, by omega, x, q, x2, p, hx, hx2, hq, hp, hvv.2.1 q (List.mem_of_getElem? hq), hvv.2.2 p (List.mem_of_getElem? hp), hc, hc2⟩
set_option maxHeartbeats 4000000 in
set_option maxRecDepth 20000 in
theorem refBegin_any (F : Nat → Prop) (C : Cnt) (z : Int) (a a2 : Option Addr) (n c n2 c2 : Nat) (w : World) (hl : CList w F a n c a2 n2 c2 C) :
    Calls Try.prog 21 #[cntV a n c a2 n2 c2, .int .i64 z] w (CntPost w F (beginC C z) (beginB C z)) := by
  have hA := ((Below.refl w.heap.size w).alloc (Nat.le_refl _) (cntRow a n c a2 n2 c2)).alloc (by simp) (cntRow none 0 0 none 0 0)
  have hx0 := heap_first w (cntRow a n c a2 n2 c2) (cntRow none 0 0 none 0 0)
  have hr0 := heap_second w (cntRow a n c a2 n2 c2) (cntRow none 0 0 none 0 0)
  have HH := Lib.hid (fun W (h : Below w.heap.size w W) => refHas_any _ C z a a2 n c n2 c2 W (hl.same h))
  have HEND := Lib.hid (fun W (h : Below w.heap.size w W) (cs : Array Value) => (show CList (W.setRow (w.heap.size + 1) cs) (Plus F w.heap.size) a n c a2 n2 c2 C from
    ((hl.cut.on (Same.below (w' := W) h)).on (Same.row (r := w.heap.size + 1) (fun h9 => by have := h9.2; omega) cs)).mono (fun b _ h => .inl h.1)))
  cases hh : hasC C z
  · obtain ⟨r1, r2⟩ := (has_no hh).1
    rw [r1, r2]
    rw [hh] at HH
    clear r1 r2 hl hh
    go_enter Try.func21, Try.ntmps21
    generalize hw0 : (w.alloc (cntRow a n c a2 n2 c2)).alloc (cntRow none 0 0 none 0 0) = w0 at *
    go_wp2_with (first
      | ((with_reducible refine Plan.load_lit 24 (.tmp 2) w.heap.size ?_ hx0 Try.underlying24 ?_ ?_ ?_); (· rfl); (· rfl); (· exact cnt_info); simp only [Act.put, List.setIfInBounds_toArray, List.set_cons_zero, List.set_cons_succ])
      | (go_at_call 39; ((with_reducible refine (HH.out _ hA).mono ?_); rintro r9 w1 ⟨rfl, h1⟩; have b1 := hA.trans (h1.mono hA.size); have hx1 := e_on h1 hx0 (e_lt hx0); have hr1 := e_on h1 hr0 (e_lt hr0); obtain ⟨e0, e1⟩ := two_row hx1; clear hx0))
      | ((with_reducible refine Plan.load_lit 24 (.tmp 2) w.heap.size ?_ hx1 Try.underlying24 ?_ ?_ ?_); (· rfl); (· rfl); (· exact cnt_info); simp only [Act.put, List.setIfInBounds_toArray, List.set_cons_zero, List.set_cons_succ])
      | ((with_reducible refine Plan.store_lit 24 (.tmp 4) _ (w.heap.size + 1) ?_ hr1 ?_ ?_ ?_ ?_ ?_ ?_); rotate_left; (· rfl); (· rfl); (· exact cnt_info); (· rfl); (· simp [Value.oneCell']); simp only [Act.put]))
    exact bodyPost_ret (Plan.results_cell_tmp (p := 4) (q := 5) rfl _ _ _ _ _ _ _ rfl (setRow_heap _ _ _ _ _ _ hr1) Try.underlying24 rfl cnt_info) rfl ⟨_, _, _, _, _, _, rfl, HEND.out _ b1 _, below_setRow b1 (show w.heap.size ≤ w.heap.size + 1 by omega) _⟩
  · obtain ⟨k, rfl, rfl, hk, hn32, x, q, x2, p, rfl, rfl, hq, hp, bq, bp, hcx, hcp⟩ := has_at hl hh
    obtain ⟨r1, r2⟩ := begin_is hh hp
    rw [r1, r2]
    rw [hh] at HH
    have hkI : (k : Int) < (n : Int) := by omega
    have hx2l : x2.block < w.heap.size := by
      have := World.block_lt_of_cell? w _ hcp
      rwa [ent_add_block] at this
    have HCP := Lib.hid (fun W (h : Below w.heap.size w W) => (h.cell (show (x2.add k).block < w.heap.size by rw [ent_add_block]; exact hx2l)).trans hcp)
    have HPL := Lib.hid (fun W (h : Below w.heap.size w W) => refPlus_any _ C.pend (some x2) n c2 k p (1) W (hl.p.same h) hp (by omega) (by omega) (by omega))
    have HLV := Lib.hid (fun W (h : Below w.heap.size w W) => (show IList W (fun b => F b ∧ b < w.heap.size) (some x) n c C.live from hl.l.cut.on (Same.below h)))
    clear hl hh hcx hcp r1 r2 hq
    by_cases hpx : p = 1099511627776
    · have d1 : (p == 1099511627776) = true := by simpa using hpx
      rw [if_pos hpx, decide_eq_false (show ¬ p ≠ 1099511627776 from fun h => h hpx)]
      go_enter Try.func21, Try.ntmps21
      generalize hw0 : (w.alloc (cntRow (some x) n c (some x2) n c2)).alloc (cntRow none 0 0 none 0 0) = w0 at *
      go_wp2_with (first
        | ((with_reducible refine Plan.load_lit 24 (.tmp 2) w.heap.size ?_ hx0 Try.underlying24 ?_ ?_ ?_); (· rfl); (· rfl); (· exact cnt_info); simp only [Act.put, List.setIfInBounds_toArray, List.set_cons_zero, List.set_cons_succ])
        | (go_at_call 39; ((with_reducible refine (HH.out _ hA).mono ?_); rintro r9 w1 ⟨rfl, h1⟩; have b1 := hA.trans (h1.mono hA.size); have hx1 := e_on h1 hx0 (e_lt hx0); have hr1 := e_on h1 hr0 (e_lt hr0); obtain ⟨e0, e1⟩ := two_row hx1; have hcp := HCP.out _ b1; clear hx0))
        | ((with_reducible refine Plan.load_lit 24 (.tmp 2) w.heap.size ?_ hx1 Try.underlying24 ?_ ?_ ?_); (· rfl); (· rfl); (· exact cnt_info); simp only [Act.put, List.setIfInBounds_toArray, List.set_cons_zero, List.set_cons_succ])
        | ((with_reducible refine Plan.store_lit 24 (.tmp 4) _ (w.heap.size + 1) ?_ hr1 ?_ ?_ ?_ ?_ ?_ ?_); rotate_left; (· rfl); (· rfl); (· exact cnt_info); (· rfl); (· simp [Value.oneCell']); simp only [Act.put]))
      exact bodyPost_ret (Plan.results_cell_tmp (p := 4) (q := 5) rfl _ _ _ _ _ _ _ rfl (setRow_heap _ _ _ _ _ _ hr1) Try.underlying24 rfl cnt_info) rfl ⟨_, _, _, _, _, _, rfl, HEND.out _ b1 _, below_setRow b1 (show w.heap.size ≤ w.heap.size + 1 by omega) _⟩
    · have d1 : (p == 1099511627776) = false := by simpa using hpx
      rw [if_neg hpx, decide_eq_true (show p ≠ 1099511627776 from hpx)]
      go_enter Try.func21, Try.ntmps21
      generalize hw0 : (w.alloc (cntRow (some x) n c (some x2) n c2)).alloc (cntRow none 0 0 none 0 0) = w0 at *
      go_wp2_with (first
        | ((with_reducible refine Plan.load_lit 24 (.tmp 2) w.heap.size ?_ hx0 Try.underlying24 ?_ ?_ ?_); (· rfl); (· rfl); (· exact cnt_info); simp only [Act.put, List.setIfInBounds_toArray, List.set_cons_zero, List.set_cons_succ])
        | (go_at_call 39; ((with_reducible refine (HH.out _ hA).mono ?_); rintro r9 w1 ⟨rfl, h1⟩; have b1 := hA.trans (h1.mono hA.size); have hx1 := e_on h1 hx0 (e_lt hx0); have hr1 := e_on h1 hr0 (e_lt hr0); obtain ⟨e0, e1⟩ := two_row hx1; have hcp := HCP.out _ b1; clear hx0)))
      refine Plan.start (fun W => W.cell? ⟨w.heap.size, 0, none⟩ = some (.slice (some x) n c) ∧ W.cell? ⟨w.heap.size, 1, none⟩ = some (.slice (some x2) n c2)) [(0, true), (1, true), (2, true), (3, true), (4, true), (5, false), (6, true), (7, false), (8, true)] (by kernel_rfl) (by kernel_rfl) (by kernel_rfl) (by kernel_rfl) ⟨e0, e1⟩ ?_
      simp only [List.map_cons, List.map_nil, List.getElem?_toArray, List.getElem?_cons_zero, List.getElem?_cons_succ]
      repeat (first | (refine Plan.take ?_ (by rfl) ?_ ?_; rotate_left; (· rintro w9 ⟨u0, u1⟩; go_simp; (try rw [if_neg (by omega)]); all_goals (with_reducible rfl)); simp only [Act.put, List.setIfInBounds_toArray, List.set_cons_zero, List.set_cons_succ]) | (refine Plan.pass (by rfl) ?_; simp only [Act.put, List.setIfInBounds_toArray, List.set_cons_zero, List.set_cons_succ]))
      refine Plan.call (by rfl) 40 _ ?_ (HPL.out _ b1.drew) ?_
      · go_simp
      rintro r9 w2 ⟨g2, k2, rfl, l2, h2⟩
      have b2 := b1.drew.trans (h2.mono b1.drew.size)
      have hx2 := e_on h2 (show w1.drew.heap[w.heap.size]? = _ from hx1) (e_lt hx1)
      have hr2 := e_on h2 (show w1.drew.heap[w.heap.size + 1]? = _ from hr1) (e_lt hr1)
      refine ⟨_, rfl, two_row hx2, ?_⟩
      simp only [Act.put, List.setIfInBounds_toArray, List.set_cons_zero, List.set_cons_succ]
      repeat (first | (refine Plan.take ?_ (by rfl) ?_ ?_; rotate_left; (· rintro w9 ⟨u0, u1⟩; go_simp; (try rw [if_neg (by omega)]); all_goals (with_reducible rfl)); simp only [Act.put, List.setIfInBounds_toArray, List.set_cons_zero, List.set_cons_succ]) | (refine Plan.pass (by rfl) ?_; simp only [Act.put, List.setIfInBounds_toArray, List.set_cons_zero, List.set_cons_succ]))
      have hz1 : w.heap.size + 1 < w1.heap.size := e_lt hr1
      refine Plan.store (by rfl) 24 (.tmp 4) (.tmp 25) rfl (w.heap.size + 1) #[.slice (some x) n c, .slice (some ⟨g2, 0, none⟩) n k2] rfl rfl 24 _ hr2 cnt_info rfl (by simp [Value.oneCell']) (two_row ((setRow_other _ (w.heap.size + 1) w.heap.size _ (by omega)).trans hx2)) ?_
      simp only [Act.put]
      repeat (first | (refine Plan.take ?_ (by rfl) ?_ ?_; rotate_left; (· rintro w9 ⟨u0, u1⟩; go_simp; (try rw [if_neg (by omega)]); all_goals (with_reducible rfl)); simp only [Act.put, List.setIfInBounds_toArray, List.set_cons_zero, List.set_cons_succ]) | (refine Plan.pass (by rfl) ?_; simp only [Act.put, List.setIfInBounds_toArray, List.set_cons_zero, List.set_cons_succ]))
      refine Plan.ends ?_
      have r3 := setRow_heap w2 (w.heap.size + 1) _ #[.slice (some x) n c, .slice (some ⟨g2, 0, none⟩) n k2] _ _ hr2
      have b3 := below_setRow b2 (show w.heap.size ≤ w.heap.size + 1 by omega) #[.slice (some x) n c, .slice (some ⟨g2, 0, none⟩) n k2]
      have LA := ((HLV.out _ b2).on (Same.row (r := w.heap.size + 1) (fun h9 => by have := h9.2; omega) #[.slice (some x) n c, .slice (some ⟨g2, 0, none⟩) n k2])).mono (G := Plus F w.heap.size) (fun b _ h => .inl h.1)
      have LB := (l2.on (Same.row (r := w.heap.size + 1) (fun h9 => by have h8 : w1.heap.size ≤ w.heap.size + 1 := h9; omega) #[.slice (some x) n c, .slice (some ⟨g2, 0, none⟩) n k2])).mono (G := Plus F w.heap.size) (fun b _ h => .inr (by have h8 : w1.heap.size ≤ b := h; omega))
      clear hx2 hr2 l2 hx1 hr1 e0 e1
      go_wp2_with fail
      exact bodyPost_ret (Plan.results_cell_tmp (p := 4) (q := 5) rfl _ _ _ _ _ _ _ rfl (r3) Try.underlying24 rfl cnt_info) rfl ⟨_, _, _, _, _, _, rfl, ⟨LA, LB⟩, b3⟩
set_option maxHeartbeats 4000000 in
set_option maxRecDepth 20000 in
theorem refEnd_any (F : Nat → Prop) (C : Cnt) (z : Int) (a a2 : Option Addr) (n c n2 c2 : Nat) (w : World) (hl : CList w F a n c a2 n2 c2 C) :
    Calls Try.prog 24 #[cntV a n c a2 n2 c2, .int .i64 z] w (CntPost w F (endC C z) (endB C z)) := by
  have hA := ((Below.refl w.heap.size w).alloc (Nat.le_refl _) (cntRow a n c a2 n2 c2)).alloc (by simp) (cntRow none 0 0 none 0 0)
  have hx0 := heap_first w (cntRow a n c a2 n2 c2) (cntRow none 0 0 none 0 0)
  have hr0 := heap_second w (cntRow a n c a2 n2 c2) (cntRow none 0 0 none 0 0)
  have HH := Lib.hid (fun W (h : Below w.heap.size w W) => refHas_any _ C z a a2 n c n2 c2 W (hl.same h))
  have HEND := Lib.hid (fun W (h : Below w.heap.size w W) (cs : Array Value) => (show CList (W.setRow (w.heap.size + 1) cs) (Plus F w.heap.size) a n c a2 n2 c2 C from
    ((hl.cut.on (Same.below (w' := W) h)).on (Same.row (r := w.heap.size + 1) (fun h9 => by have := h9.2; omega) cs)).mono (fun b _ h => .inl h.1)))
  cases hh : hasC C z
  · obtain ⟨r1, r2⟩ := (has_no hh).2.1
    rw [r1, r2]
    rw [hh] at HH
    clear r1 r2 hl hh
    go_enter Try.func24, Try.ntmps24
    generalize hw0 : (w.alloc (cntRow a n c a2 n2 c2)).alloc (cntRow none 0 0 none 0 0) = w0 at *
    go_wp2_with (first
      | ((with_reducible refine Plan.load_lit 24 (.tmp 2) w.heap.size ?_ hx0 Try.underlying24 ?_ ?_ ?_); (· rfl); (· rfl); (· exact cnt_info); simp only [Act.put, List.setIfInBounds_toArray, List.set_cons_zero, List.set_cons_succ])
      | (go_at_call 39; ((with_reducible refine (HH.out _ hA).mono ?_); rintro r9 w1 ⟨rfl, h1⟩; have b1 := hA.trans (h1.mono hA.size); have hx1 := e_on h1 hx0 (e_lt hx0); have hr1 := e_on h1 hr0 (e_lt hr0); obtain ⟨e0, e1⟩ := two_row hx1; clear hx0))
      | ((with_reducible refine Plan.load_lit 24 (.tmp 2) w.heap.size ?_ hx1 Try.underlying24 ?_ ?_ ?_); (· rfl); (· rfl); (· exact cnt_info); simp only [Act.put, List.setIfInBounds_toArray, List.set_cons_zero, List.set_cons_succ])
      | ((with_reducible refine Plan.store_lit 24 (.tmp 4) _ (w.heap.size + 1) ?_ hr1 ?_ ?_ ?_ ?_ ?_ ?_); rotate_left; (· rfl); (· rfl); (· exact cnt_info); (· rfl); (· simp [Value.oneCell']); simp only [Act.put]))
    exact bodyPost_ret (Plan.results_cell_tmp (p := 4) (q := 5) rfl _ _ _ _ _ _ _ rfl (setRow_heap _ _ _ _ _ _ hr1) Try.underlying24 rfl cnt_info) rfl ⟨_, _, _, _, _, _, rfl, HEND.out _ b1 _, below_setRow b1 (show w.heap.size ≤ w.heap.size + 1 by omega) _⟩
  · obtain ⟨k, rfl, rfl, hk, hn32, x, q, x2, p, rfl, rfl, hq, hp, bq, bp, hcx, hcp⟩ := has_at hl hh
    obtain ⟨r1, r2⟩ := end_is hh hp
    rw [r1, r2]
    rw [hh] at HH
    have hkI : (k : Int) < (n : Int) := by omega
    have hx2l : x2.block < w.heap.size := by
      have := World.block_lt_of_cell? w _ hcp
      rwa [ent_add_block] at this
    have HCP := Lib.hid (fun W (h : Below w.heap.size w W) => (h.cell (show (x2.add k).block < w.heap.size by rw [ent_add_block]; exact hx2l)).trans hcp)
    have HPL := Lib.hid (fun W (h : Below w.heap.size w W) => refPlus_any _ C.pend (some x2) n c2 k p (-1) W (hl.p.same h) hp (by omega) (by omega) (by omega))
    have HLV := Lib.hid (fun W (h : Below w.heap.size w W) => (show IList W (fun b => F b ∧ b < w.heap.size) (some x) n c C.live from hl.l.cut.on (Same.below h)))
    clear hl hh hcx hcp r1 r2 hq
    by_cases hpx : p = 0
    · have d1 : (p == 0) = true := by simpa using hpx
      rw [if_pos hpx, decide_eq_false (show ¬ p ≠ 0 from fun h => h hpx)]
      go_enter Try.func24, Try.ntmps24
      generalize hw0 : (w.alloc (cntRow (some x) n c (some x2) n c2)).alloc (cntRow none 0 0 none 0 0) = w0 at *
      go_wp2_with (first
        | ((with_reducible refine Plan.load_lit 24 (.tmp 2) w.heap.size ?_ hx0 Try.underlying24 ?_ ?_ ?_); (· rfl); (· rfl); (· exact cnt_info); simp only [Act.put, List.setIfInBounds_toArray, List.set_cons_zero, List.set_cons_succ])
        | (go_at_call 39; ((with_reducible refine (HH.out _ hA).mono ?_); rintro r9 w1 ⟨rfl, h1⟩; have b1 := hA.trans (h1.mono hA.size); have hx1 := e_on h1 hx0 (e_lt hx0); have hr1 := e_on h1 hr0 (e_lt hr0); obtain ⟨e0, e1⟩ := two_row hx1; have hcp := HCP.out _ b1; clear hx0))
        | ((with_reducible refine Plan.load_lit 24 (.tmp 2) w.heap.size ?_ hx1 Try.underlying24 ?_ ?_ ?_); (· rfl); (· rfl); (· exact cnt_info); simp only [Act.put, List.setIfInBounds_toArray, List.set_cons_zero, List.set_cons_succ])
        | ((with_reducible refine Plan.store_lit 24 (.tmp 4) _ (w.heap.size + 1) ?_ hr1 ?_ ?_ ?_ ?_ ?_ ?_); rotate_left; (· rfl); (· rfl); (· exact cnt_info); (· rfl); (· simp [Value.oneCell']); simp only [Act.put]))
      exact bodyPost_ret (Plan.results_cell_tmp (p := 4) (q := 5) rfl _ _ _ _ _ _ _ rfl (setRow_heap _ _ _ _ _ _ hr1) Try.underlying24 rfl cnt_info) rfl ⟨_, _, _, _, _, _, rfl, HEND.out _ b1 _, below_setRow b1 (show w.heap.size ≤ w.heap.size + 1 by omega) _⟩
    · have d1 : (p == 0) = false := by simpa using hpx
      rw [if_neg hpx, decide_eq_true (show p ≠ 0 from hpx)]
      go_enter Try.func24, Try.ntmps24
      generalize hw0 : (w.alloc (cntRow (some x) n c (some x2) n c2)).alloc (cntRow none 0 0 none 0 0) = w0 at *
      go_wp2_with (first
        | ((with_reducible refine Plan.load_lit 24 (.tmp 2) w.heap.size ?_ hx0 Try.underlying24 ?_ ?_ ?_); (· rfl); (· rfl); (· exact cnt_info); simp only [Act.put, List.setIfInBounds_toArray, List.set_cons_zero, List.set_cons_succ])
        | (go_at_call 39; ((with_reducible refine (HH.out _ hA).mono ?_); rintro r9 w1 ⟨rfl, h1⟩; have b1 := hA.trans (h1.mono hA.size); have hx1 := e_on h1 hx0 (e_lt hx0); have hr1 := e_on h1 hr0 (e_lt hr0); obtain ⟨e0, e1⟩ := two_row hx1; have hcp := HCP.out _ b1; clear hx0)))
      refine Plan.start (fun W => W.cell? ⟨w.heap.size, 0, none⟩ = some (.slice (some x) n c) ∧ W.cell? ⟨w.heap.size, 1, none⟩ = some (.slice (some x2) n c2)) [(0, true), (1, true), (2, true), (3, true), (4, true), (5, false), (6, true), (7, false), (8, true)] (by kernel_rfl) (by kernel_rfl) (by kernel_rfl) (by kernel_rfl) ⟨e0, e1⟩ ?_
      simp only [List.map_cons, List.map_nil, List.getElem?_toArray, List.getElem?_cons_zero, List.getElem?_cons_succ]
      repeat (first | (refine Plan.take ?_ (by rfl) ?_ ?_; rotate_left; (· rintro w9 ⟨u0, u1⟩; go_simp; (try rw [if_neg (by omega)]); all_goals (with_reducible rfl)); simp only [Act.put, List.setIfInBounds_toArray, List.set_cons_zero, List.set_cons_succ]) | (refine Plan.pass (by rfl) ?_; simp only [Act.put, List.setIfInBounds_toArray, List.set_cons_zero, List.set_cons_succ]))
      refine Plan.call (by rfl) 40 _ ?_ (HPL.out _ b1.drew) ?_
      · go_simp
      rintro r9 w2 ⟨g2, k2, rfl, l2, h2⟩
      have b2 := b1.drew.trans (h2.mono b1.drew.size)
      have hx2 := e_on h2 (show w1.drew.heap[w.heap.size]? = _ from hx1) (e_lt hx1)
      have hr2 := e_on h2 (show w1.drew.heap[w.heap.size + 1]? = _ from hr1) (e_lt hr1)
      refine ⟨_, rfl, two_row hx2, ?_⟩
      simp only [Act.put, List.setIfInBounds_toArray, List.set_cons_zero, List.set_cons_succ]
      repeat (first | (refine Plan.take ?_ (by rfl) ?_ ?_; rotate_left; (· rintro w9 ⟨u0, u1⟩; go_simp; (try rw [if_neg (by omega)]); all_goals (with_reducible rfl)); simp only [Act.put, List.setIfInBounds_toArray, List.set_cons_zero, List.set_cons_succ]) | (refine Plan.pass (by rfl) ?_; simp only [Act.put, List.setIfInBounds_toArray, List.set_cons_zero, List.set_cons_succ]))
      have hz1 : w.heap.size + 1 < w1.heap.size := e_lt hr1
      refine Plan.store (by rfl) 24 (.tmp 4) (.tmp 25) rfl (w.heap.size + 1) #[.slice (some x) n c, .slice (some ⟨g2, 0, none⟩) n k2] rfl rfl 24 _ hr2 cnt_info rfl (by simp [Value.oneCell']) (two_row ((setRow_other _ (w.heap.size + 1) w.heap.size _ (by omega)).trans hx2)) ?_
      simp only [Act.put]
      repeat (first | (refine Plan.take ?_ (by rfl) ?_ ?_; rotate_left; (· rintro w9 ⟨u0, u1⟩; go_simp; (try rw [if_neg (by omega)]); all_goals (with_reducible rfl)); simp only [Act.put, List.setIfInBounds_toArray, List.set_cons_zero, List.set_cons_succ]) | (refine Plan.pass (by rfl) ?_; simp only [Act.put, List.setIfInBounds_toArray, List.set_cons_zero, List.set_cons_succ]))
      refine Plan.ends ?_
      have r3 := setRow_heap w2 (w.heap.size + 1) _ #[.slice (some x) n c, .slice (some ⟨g2, 0, none⟩) n k2] _ _ hr2
      have b3 := below_setRow b2 (show w.heap.size ≤ w.heap.size + 1 by omega) #[.slice (some x) n c, .slice (some ⟨g2, 0, none⟩) n k2]
      have LA := ((HLV.out _ b2).on (Same.row (r := w.heap.size + 1) (fun h9 => by have := h9.2; omega) #[.slice (some x) n c, .slice (some ⟨g2, 0, none⟩) n k2])).mono (G := Plus F w.heap.size) (fun b _ h => .inl h.1)
      have LB := (l2.on (Same.row (r := w.heap.size + 1) (fun h9 => by have h8 : w1.heap.size ≤ w.heap.size + 1 := h9; omega) #[.slice (some x) n c, .slice (some ⟨g2, 0, none⟩) n k2])).mono (G := Plus F w.heap.size) (fun b _ h => .inr (by have h8 : w1.heap.size ≤ b := h; omega))
      clear hx2 hr2 l2 hx1 hr1 e0 e1
      go_wp2_with fail
      exact bodyPost_ret (Plan.results_cell_tmp (p := 4) (q := 5) rfl _ _ _ _ _ _ _ rfl (r3) Try.underlying24 rfl cnt_info) rfl ⟨_, _, _, _, _, _, rfl, ⟨LA, LB⟩, b3⟩
end Go.Proofs.Ytigmjpkhpoolkaa.Ents
