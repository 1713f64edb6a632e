/- Texts that belong together, part 23. -/
import Derived.Test.YtjdlekjikemdpaaPack22

/- The walk of the program's Leave of pools. -/
namespace Go.Proofs.Ytjdlekjikemdpaa.Ents
open Go.RowKit Plan EntMath CntMath PoolMath LayMath
/-- the boxes of a pool, a configuration and a result, and that of a changed pool -/
structure PX (w W : World) (XP XC : Obj) (X : Nat) (XX : Obj) : Prop where
  hp : W.heap[w.heap.size]? = some XP
  hc : W.heap[w.heap.size + 1]? = some XC
  hr : W.heap[w.heap.size + 2]? = some (poRow none 0 0 0 0)
  hx : W.heap[X]? = some XX
  hX : w.heap.size + 2 < X
  hb : Below w.heap.size w W
section
variable {w W W' : World} {XP XC XX : Obj} {X : Nat}
theorem PX.of (K : PW w W XP XC) (o : Obj) : PX w (W.alloc o) XP XC W.heap.size o := ⟨e_al K.hp o, e_al K.hc o, e_al K.hr o, heap_alloc_new W o, K.lt, K.hb.alloc K.hb.size o⟩
theorem PX.on (K : PX w W XP XC X XX) (h : Below W.heap.size W W') : PX w W' XP XC X XX := ⟨e_on h K.hp (e_lt K.hp), e_on h K.hc (e_lt K.hc), e_on h K.hr (e_lt K.hr), e_on h K.hx (e_lt K.hx), K.hX, K.hb.trans (h.mono K.hb.size)⟩
theorem PX.lt (K : PX w W XP XC X XX) : X < W.heap.size := e_lt K.hx
theorem PX.put {cs cs' : Array Value} {t : TypeId} (K : PX w W XP XC X (.cells cs t (0, 0))) {XX' : Obj} (h : XX' = .cells cs' t (0, 0)) : PX w (W.setRow X cs') XP XC X XX' := by
  subst h
  have := K.hX
  exact ⟨(setRow_other _ _ _ _ (by omega)).trans K.hp, (setRow_other _ _ _ _ (by omega)).trans K.hc, (setRow_other _ _ _ _ (by omega)).trans K.hr, setRow_heap _ _ _ _ _ _ K.hx, K.hX, below_setRow K.hb (by omega) _⟩
end
set_option maxHeartbeats 8000000 in
set_option maxRecDepth 20000 in
theorem poLeave_any (F : Nat → Prop) (P : Po) (cz cs cb cq cd ch : Int) (B : Bool) (a : Option Addr) (n c : Nat) (h k : Int) (w : World) (hl : FList w F a n c h k P) (_hn : n ≤ 1000) :
    Calls Try.prog 21 #[poV a n c h k, confV cz cs cb cq cd ch, .bool B] w
      (PoPost w F (leaveP (decide (errN cz cs cb cq cd ch = 0)) (isN cz cs cb cq cd ch) P B) (leaveB (decide (errN cz cs cb cq cd ch = 0)) (isN cz cs cb cq cd ch) P B)) := by
  have K := PW.start w (poRow a n c h k) (confRow cz cs cb cq cd ch)
  have HV := Lib.hid (fun W (q : Below w.heap.size w W) => poValid_any _ P cz cs cb cq cd ch a n c h k W (hl.same q))
  unfold confV at *
  generalize decide (errN cz cs cb cq cd ch = 0) = V at *
  generalize isN cz cs cb cq cd ch = D at *
  obtain ⟨L, h0, k0⟩ := P
  obtain ⟨e1, e2, hl⟩ := hl
  simp only at e1 e2 hl
  subst e1 e2
  generalize h0 = h at *
  generalize k0 = k at *
  have HEND := Lib.hid (fun W (q : Below w.heap.size w W) (cs : Array Value) => (show IList (W.setRow (w.heap.size + 2) cs) (Plus F w.heap.size) a n c L from
    ((hl.cut.on (Same.below (w' := W) q)).on (Same.row (r := w.heap.size + 2) (fun h9 => by have := h9.2; omega) cs)).mono (fun b _ h => .inl h.1)))
  cases hva : validP V D ⟨L, h, k⟩
  · have r1 : leaveB V D ⟨L, h, k⟩ B = false := by simp [leaveB, hva]
    have r2 : leaveP V D ⟨L, h, k⟩ B = ⟨L, h, k⟩ := by unfold leaveP; rw [r1]; rfl
    rw [hva] at HV
    rw [r1, r2]
    clear hl r1 r2
    cases B
    · skip
      go_enter Try.func21, Try.ntmps21
      generalize hw0 : ((w.alloc (poRow a n c h k)).alloc (confRow cz cs cb cq cd ch)).alloc (poRow none 0 0 0 0) = w0 at *
      go_wp2_with (first
        | ((with_reducible refine Plan.load_lit 24 (.tmp 3) w.heap.size ?_ K.hp Try.underlying24 ?_ ?_ ?_); (· rfl); (· rfl); (· exact po_info); simp only [Act.put, List.setIfInBounds_toArray, List.set_cons_zero, List.set_cons_succ])
        | ((with_reducible refine Plan.store_lit 24 (.tmp 8) _ (w0.heap.size) ?_ (heap_alloc_new w0 (poRow none 0 0 0 0)) ?_ ?_ ?_ ?_ ?_ ?_); rotate_left; (· rfl); (· rfl); (· exact po_info); (· rfl); (· simp [Value.oneCell']); simp only [Act.put]; have K1 := (PX.of K (poRow none 0 0 0 0)).put (cs' := #[.slice a n c, .int .i64 h, .int .i64 k]) (XX' := poRow a n c h k) rfl; generalize hX9 : w0.heap.size = X at *; clear K hw0; have K := K1; clear K1; obtain ⟨c0, c1, c2⟩ := three_row K.hx)
        | ((with_reducible refine Plan.load_lit 26 (.tmp 4) (w.heap.size + 1) ?_ K.hc Try.underlying26 ?_ ?_ ?_); (· rfl); (· rfl); (· exact conf_info); simp only [Act.put, List.setIfInBounds_toArray, List.set_cons_zero, List.set_cons_succ])
        | (go_at_call 22; ((with_reducible refine (HV.out _ K.hb).mono ?_); rintro r9 w1 ⟨rfl, h1⟩; have K1 := K.on h1; clear K HV h1 c0 c1 c2; have K := K1; clear K1; obtain ⟨c0, c1, c2⟩ := three_row K.hx))
        | ((with_reducible refine store_int_c 3 (.tmp 26) (.const (.int .i64 (-1))) X 2 .i64 (-1) ?_ ?_ ⟨_, (three_row K.hx).2.2⟩ (free_row_c K.hx) Put.int_info1 ?_); (· rfl); (· rfl); simp only [Act.put]; rw [setCell_eq_setRow _ _ _ _ _ _ _ K.hx]; simp only [List.setIfInBounds_toArray, List.set_cons_zero, List.set_cons_succ]; have K1 := K.put (XX' := poRow a n c h (-1)) rfl; clear K c0 c1 c2; have K := K1; clear K1)
        | ((with_reducible refine Plan.load_lit 24 (.tmp 8) (X) ?_ K.hx Try.underlying24 ?_ ?_ ?_); (· rfl); (· rfl); (· exact po_info); simp only [Act.put, List.setIfInBounds_toArray, List.set_cons_zero, List.set_cons_succ])
        | ((with_reducible refine Plan.store_lit 24 (.tmp 6) _ (w.heap.size + 2) ?_ K.hr ?_ ?_ ?_ ?_ ?_ ?_); rotate_left; (· rfl); (· rfl); (· exact po_info); (· rfl); (· simp [Value.oneCell']); simp only [Act.put]))
      exact bodyPost_ret (Plan.results_cell_tmp (p := 6) (q := 7) rfl _ _ _ _ _ _ _ rfl (setRow_heap _ _ _ _ _ _ K.hr) Try.underlying24 rfl po_info) rfl ⟨_, _, _, _, _, rfl, ⟨rfl, rfl, HEND.out _ K.hb _⟩, below_setRow K.hb (show w.heap.size ≤ w.heap.size + 2 by omega) _⟩
    · skip
      go_enter Try.func21, Try.ntmps21
      generalize hw0 : ((w.alloc (poRow a n c h k)).alloc (confRow cz cs cb cq cd ch)).alloc (poRow none 0 0 0 0) = w0 at *
      go_wp2_with (first
        | ((with_reducible refine Plan.load_lit 24 (.tmp 3) w.heap.size ?_ K.hp Try.underlying24 ?_ ?_ ?_); (· rfl); (· rfl); (· exact po_info); simp only [Act.put, List.setIfInBounds_toArray, List.set_cons_zero, List.set_cons_succ])
        | ((with_reducible refine Plan.store_lit 24 (.tmp 8) _ (w0.heap.size) ?_ (heap_alloc_new w0 (poRow none 0 0 0 0)) ?_ ?_ ?_ ?_ ?_ ?_); rotate_left; (· rfl); (· rfl); (· exact po_info); (· rfl); (· simp [Value.oneCell']); simp only [Act.put]; have K1 := (PX.of K (poRow none 0 0 0 0)).put (cs' := #[.slice a n c, .int .i64 h, .int .i64 k]) (XX' := poRow a n c h k) rfl; generalize hX9 : w0.heap.size = X at *; clear K hw0; have K := K1; clear K1; obtain ⟨c0, c1, c2⟩ := three_row K.hx)
        | ((with_reducible refine Plan.load_lit 26 (.tmp 4) (w.heap.size + 1) ?_ K.hc Try.underlying26 ?_ ?_ ?_); (· rfl); (· rfl); (· exact conf_info); simp only [Act.put, List.setIfInBounds_toArray, List.set_cons_zero, List.set_cons_succ])
        | (go_at_call 22; ((with_reducible refine (HV.out _ K.hb).mono ?_); rintro r9 w1 ⟨rfl, h1⟩; have K1 := K.on h1; clear K HV h1 c0 c1 c2; have K := K1; clear K1; obtain ⟨c0, c1, c2⟩ := three_row K.hx))
        | ((with_reducible refine store_int_c 3 (.tmp 26) (.const (.int .i64 (-1))) X 1 .i64 (-1) ?_ ?_ ⟨_, (three_row K.hx).2.1⟩ (free_row_c K.hx) Put.int_info1 ?_); (· rfl); (· rfl); simp only [Act.put]; rw [setCell_eq_setRow _ _ _ _ _ _ _ K.hx]; simp only [List.setIfInBounds_toArray, List.set_cons_zero, List.set_cons_succ]; have K1 := K.put (XX' := poRow a n c (-1) k) rfl; clear K c0 c1 c2; have K := K1; clear K1)
        | ((with_reducible refine Plan.load_lit 24 (.tmp 8) (X) ?_ K.hx Try.underlying24 ?_ ?_ ?_); (· rfl); (· rfl); (· exact po_info); simp only [Act.put, List.setIfInBounds_toArray, List.set_cons_zero, List.set_cons_succ])
        | ((with_reducible refine Plan.store_lit 24 (.tmp 6) _ (w.heap.size + 2) ?_ K.hr ?_ ?_ ?_ ?_ ?_ ?_); rotate_left; (· rfl); (· rfl); (· exact po_info); (· rfl); (· simp [Value.oneCell']); simp only [Act.put]))
      exact bodyPost_ret (Plan.results_cell_tmp (p := 6) (q := 7) rfl _ _ _ _ _ _ _ rfl (setRow_heap _ _ _ _ _ _ K.hr) Try.underlying24 rfl po_info) rfl ⟨_, _, _, _, _, rfl, ⟨rfl, rfl, HEND.out _ K.hb _⟩, below_setRow K.hb (show w.heap.size ≤ w.heap.size + 2 by omega) _⟩
  · rw [hva] at HV
    cases B
    · by_cases q1 : k = -1
      · have t1 : (k == (-1 : Int)) = true := by simpa using q1
        have r1 : leaveB V D ⟨L, h, k⟩ false = false := by simp [leaveB, q1]
        have r2 : leaveP V D ⟨L, h, k⟩ false = ⟨L, h, k⟩ := by unfold leaveP; rw [r1]; rfl
        clear q1
        rw [r1, r2]
        clear hl r1 r2
        go_enter Try.func21, Try.ntmps21
        generalize hw0 : ((w.alloc (poRow a n c h k)).alloc (confRow cz cs cb cq cd ch)).alloc (poRow none 0 0 0 0) = w0 at *
        go_wp2_with (first
          | ((with_reducible refine Plan.load_lit 24 (.tmp 3) w.heap.size ?_ K.hp Try.underlying24 ?_ ?_ ?_); (· rfl); (· rfl); (· exact po_info); simp only [Act.put, List.setIfInBounds_toArray, List.set_cons_zero, List.set_cons_succ])
          | ((with_reducible refine Plan.store_lit 24 (.tmp 8) _ (w0.heap.size) ?_ (heap_alloc_new w0 (poRow none 0 0 0 0)) ?_ ?_ ?_ ?_ ?_ ?_); rotate_left; (· rfl); (· rfl); (· exact po_info); (· rfl); (· simp [Value.oneCell']); simp only [Act.put]; have K1 := (PX.of K (poRow none 0 0 0 0)).put (cs' := #[.slice a n c, .int .i64 h, .int .i64 k]) (XX' := poRow a n c h k) rfl; generalize hX9 : w0.heap.size = X at *; clear K hw0; have K := K1; clear K1; obtain ⟨c0, c1, c2⟩ := three_row K.hx)
          | ((with_reducible refine Plan.load_lit 26 (.tmp 4) (w.heap.size + 1) ?_ K.hc Try.underlying26 ?_ ?_ ?_); (· rfl); (· rfl); (· exact conf_info); simp only [Act.put, List.setIfInBounds_toArray, List.set_cons_zero, List.set_cons_succ])
          | (go_at_call 22; ((with_reducible refine (HV.out _ K.hb).mono ?_); rintro r9 w1 ⟨rfl, h1⟩; have K1 := K.on h1; clear K HV h1 c0 c1 c2; have K := K1; clear K1; obtain ⟨c0, c1, c2⟩ := three_row K.hx))
          | ((with_reducible refine store_int_c 3 (.tmp 26) (.const (.int .i64 (-1))) X 2 .i64 (-1) ?_ ?_ ⟨_, (three_row K.hx).2.2⟩ (free_row_c K.hx) Put.int_info1 ?_); (· rfl); (· rfl); simp only [Act.put]; rw [setCell_eq_setRow _ _ _ _ _ _ _ K.hx]; simp only [List.setIfInBounds_toArray, List.set_cons_zero, List.set_cons_succ]; have K1 := K.put (XX' := poRow a n c h (-1)) rfl; clear K c0 c1 c2; have K := K1; clear K1)
          | ((with_reducible refine Plan.load_lit 24 (.tmp 8) (X) ?_ K.hx Try.underlying24 ?_ ?_ ?_); (· rfl); (· rfl); (· exact po_info); simp only [Act.put, List.setIfInBounds_toArray, List.set_cons_zero, List.set_cons_succ])
          | ((with_reducible refine Plan.store_lit 24 (.tmp 6) _ (w.heap.size + 2) ?_ K.hr ?_ ?_ ?_ ?_ ?_ ?_); rotate_left; (· rfl); (· rfl); (· exact po_info); (· rfl); (· simp [Value.oneCell']); simp only [Act.put]))
        exact bodyPost_ret (Plan.results_cell_tmp (p := 6) (q := 7) rfl _ _ _ _ _ _ _ rfl (setRow_heap _ _ _ _ _ _ K.hr) Try.underlying24 rfl po_info) rfl ⟨_, _, _, _, _, rfl, ⟨rfl, rfl, HEND.out _ K.hb _⟩, below_setRow K.hb (show w.heap.size ≤ w.heap.size + 2 by omega) _⟩
      · have t1 : (k == (-1 : Int)) = false := by simpa using q1
        have r1 : leaveB V D ⟨L, h, k⟩ false = true := by simp [leaveB, hva, q1]
        have r2 : leaveP V D ⟨L, h, k⟩ false = ⟨L, h, -1⟩ := by unfold leaveP; rw [r1]; rfl
        clear q1
        rw [r1, r2]
        clear hl r1 r2
        go_enter Try.func21, Try.ntmps21
        generalize hw0 : ((w.alloc (poRow a n c h k)).alloc (confRow cz cs cb cq cd ch)).alloc (poRow none 0 0 0 0) = w0 at *
        go_wp2_with (first
          | ((with_reducible refine Plan.load_lit 24 (.tmp 3) w.heap.size ?_ K.hp Try.underlying24 ?_ ?_ ?_); (· rfl); (· rfl); (· exact po_info); simp only [Act.put, List.setIfInBounds_toArray, List.set_cons_zero, List.set_cons_succ])
          | ((with_reducible refine Plan.store_lit 24 (.tmp 8) _ (w0.heap.size) ?_ (heap_alloc_new w0 (poRow none 0 0 0 0)) ?_ ?_ ?_ ?_ ?_ ?_); rotate_left; (· rfl); (· rfl); (· exact po_info); (· rfl); (· simp [Value.oneCell']); simp only [Act.put]; have K1 := (PX.of K (poRow none 0 0 0 0)).put (cs' := #[.slice a n c, .int .i64 h, .int .i64 k]) (XX' := poRow a n c h k) rfl; generalize hX9 : w0.heap.size = X at *; clear K hw0; have K := K1; clear K1; obtain ⟨c0, c1, c2⟩ := three_row K.hx)
          | ((with_reducible refine Plan.load_lit 26 (.tmp 4) (w.heap.size + 1) ?_ K.hc Try.underlying26 ?_ ?_ ?_); (· rfl); (· rfl); (· exact conf_info); simp only [Act.put, List.setIfInBounds_toArray, List.set_cons_zero, List.set_cons_succ])
          | (go_at_call 22; ((with_reducible refine (HV.out _ K.hb).mono ?_); rintro r9 w1 ⟨rfl, h1⟩; have K1 := K.on h1; clear K HV h1 c0 c1 c2; have K := K1; clear K1; obtain ⟨c0, c1, c2⟩ := three_row K.hx))
          | ((with_reducible refine store_int_c 3 (.tmp 26) (.const (.int .i64 (-1))) X 2 .i64 (-1) ?_ ?_ ⟨_, (three_row K.hx).2.2⟩ (free_row_c K.hx) Put.int_info1 ?_); (· rfl); (· rfl); simp only [Act.put]; rw [setCell_eq_setRow _ _ _ _ _ _ _ K.hx]; simp only [List.setIfInBounds_toArray, List.set_cons_zero, List.set_cons_succ]; have K1 := K.put (XX' := poRow a n c h (-1)) rfl; clear K c0 c1 c2; have K := K1; clear K1)
          | ((with_reducible refine Plan.load_lit 24 (.tmp 8) (X) ?_ K.hx Try.underlying24 ?_ ?_ ?_); (· rfl); (· rfl); (· exact po_info); simp only [Act.put, List.setIfInBounds_toArray, List.set_cons_zero, List.set_cons_succ])
          | ((with_reducible refine Plan.store_lit 24 (.tmp 6) _ (w.heap.size + 2) ?_ K.hr ?_ ?_ ?_ ?_ ?_ ?_); rotate_left; (· rfl); (· rfl); (· exact po_info); (· rfl); (· simp [Value.oneCell']); simp only [Act.put]))
        exact bodyPost_ret (Plan.results_cell_tmp (p := 6) (q := 7) rfl _ _ _ _ _ _ _ rfl (setRow_heap _ _ _ _ _ _ K.hr) Try.underlying24 rfl po_info) rfl ⟨_, _, _, _, _, rfl, ⟨rfl, rfl, HEND.out _ K.hb _⟩, below_setRow K.hb (show w.heap.size ≤ w.heap.size + 2 by omega) _⟩
    · by_cases q1 : h = -1
      · have t1 : (h == (-1 : Int)) = true := by simpa using q1
        have r1 : leaveB V D ⟨L, h, k⟩ true = false := by simp [leaveB, q1]
        have r2 : leaveP V D ⟨L, h, k⟩ true = ⟨L, h, k⟩ := by unfold leaveP; rw [r1]; rfl
        clear q1
        rw [r1, r2]
        clear hl r1 r2
        go_enter Try.func21, Try.ntmps21
        generalize hw0 : ((w.alloc (poRow a n c h k)).alloc (confRow cz cs cb cq cd ch)).alloc (poRow none 0 0 0 0) = w0 at *
        go_wp2_with (first
          | ((with_reducible refine Plan.load_lit 24 (.tmp 3) w.heap.size ?_ K.hp Try.underlying24 ?_ ?_ ?_); (· rfl); (· rfl); (· exact po_info); simp only [Act.put, List.setIfInBounds_toArray, List.set_cons_zero, List.set_cons_succ])
          | ((with_reducible refine Plan.store_lit 24 (.tmp 8) _ (w0.heap.size) ?_ (heap_alloc_new w0 (poRow none 0 0 0 0)) ?_ ?_ ?_ ?_ ?_ ?_); rotate_left; (· rfl); (· rfl); (· exact po_info); (· rfl); (· simp [Value.oneCell']); simp only [Act.put]; have K1 := (PX.of K (poRow none 0 0 0 0)).put (cs' := #[.slice a n c, .int .i64 h, .int .i64 k]) (XX' := poRow a n c h k) rfl; generalize hX9 : w0.heap.size = X at *; clear K hw0; have K := K1; clear K1; obtain ⟨c0, c1, c2⟩ := three_row K.hx)
          | ((with_reducible refine Plan.load_lit 26 (.tmp 4) (w.heap.size + 1) ?_ K.hc Try.underlying26 ?_ ?_ ?_); (· rfl); (· rfl); (· exact conf_info); simp only [Act.put, List.setIfInBounds_toArray, List.set_cons_zero, List.set_cons_succ])
          | (go_at_call 22; ((with_reducible refine (HV.out _ K.hb).mono ?_); rintro r9 w1 ⟨rfl, h1⟩; have K1 := K.on h1; clear K HV h1 c0 c1 c2; have K := K1; clear K1; obtain ⟨c0, c1, c2⟩ := three_row K.hx))
          | ((with_reducible refine store_int_c 3 (.tmp 26) (.const (.int .i64 (-1))) X 1 .i64 (-1) ?_ ?_ ⟨_, (three_row K.hx).2.1⟩ (free_row_c K.hx) Put.int_info1 ?_); (· rfl); (· rfl); simp only [Act.put]; rw [setCell_eq_setRow _ _ _ _ _ _ _ K.hx]; simp only [List.setIfInBounds_toArray, List.set_cons_zero, List.set_cons_succ]; have K1 := K.put (XX' := poRow a n c (-1) k) rfl; clear K c0 c1 c2; have K := K1; clear K1)
          | ((with_reducible refine Plan.load_lit 24 (.tmp 8) (X) ?_ K.hx Try.underlying24 ?_ ?_ ?_); (· rfl); (· rfl); (· exact po_info); simp only [Act.put, List.setIfInBounds_toArray, List.set_cons_zero, List.set_cons_succ])
          | ((with_reducible refine Plan.store_lit 24 (.tmp 6) _ (w.heap.size + 2) ?_ K.hr ?_ ?_ ?_ ?_ ?_ ?_); rotate_left; (· rfl); (· rfl); (· exact po_info); (· rfl); (· simp [Value.oneCell']); simp only [Act.put]))
        exact bodyPost_ret (Plan.results_cell_tmp (p := 6) (q := 7) rfl _ _ _ _ _ _ _ rfl (setRow_heap _ _ _ _ _ _ K.hr) Try.underlying24 rfl po_info) rfl ⟨_, _, _, _, _, rfl, ⟨rfl, rfl, HEND.out _ K.hb _⟩, below_setRow K.hb (show w.heap.size ≤ w.heap.size + 2 by omega) _⟩
      · have t1 : (h == (-1 : Int)) = false := by simpa using q1
        have r1 : leaveB V D ⟨L, h, k⟩ true = true := by simp [leaveB, hva, q1]
        have r2 : leaveP V D ⟨L, h, k⟩ true = ⟨L, -1, k⟩ := by unfold leaveP; rw [r1]; rfl
        clear q1
        rw [r1, r2]
        clear hl r1 r2
        go_enter Try.func21, Try.ntmps21
        generalize hw0 : ((w.alloc (poRow a n c h k)).alloc (confRow cz cs cb cq cd ch)).alloc (poRow none 0 0 0 0) = w0 at *
        go_wp2_with (first
          | ((with_reducible refine Plan.load_lit 24 (.tmp 3) w.heap.size ?_ K.hp Try.underlying24 ?_ ?_ ?_); (· rfl); (· rfl); (· exact po_info); simp only [Act.put, List.setIfInBounds_toArray, List.set_cons_zero, List.set_cons_succ])
          | ((with_reducible refine Plan.store_lit 24 (.tmp 8) _ (w0.heap.size) ?_ (heap_alloc_new w0 (poRow none 0 0 0 0)) ?_ ?_ ?_ ?_ ?_ ?_); rotate_left; (· rfl); (· rfl); (· exact po_info); (· rfl); (· simp [Value.oneCell']); simp only [Act.put]; have K1 := (PX.of K (poRow none 0 0 0 0)).put (cs' := #[.slice a n c, .int .i64 h, .int .i64 k]) (XX' := poRow a n c h k) rfl; generalize hX9 : w0.heap.size = X at *; clear K hw0; have K := K1; clear K1; obtain ⟨c0, c1, c2⟩ := three_row K.hx)
          | ((with_reducible refine Plan.load_lit 26 (.tmp 4) (w.heap.size + 1) ?_ K.hc Try.underlying26 ?_ ?_ ?_); (· rfl); (· rfl); (· exact conf_info); simp only [Act.put, List.setIfInBounds_toArray, List.set_cons_zero, List.set_cons_succ])
          | (go_at_call 22; ((with_reducible refine (HV.out _ K.hb).mono ?_); rintro r9 w1 ⟨rfl, h1⟩; have K1 := K.on h1; clear K HV h1 c0 c1 c2; have K := K1; clear K1; obtain ⟨c0, c1, c2⟩ := three_row K.hx))
          | ((with_reducible refine store_int_c 3 (.tmp 26) (.const (.int .i64 (-1))) X 1 .i64 (-1) ?_ ?_ ⟨_, (three_row K.hx).2.1⟩ (free_row_c K.hx) Put.int_info1 ?_); (· rfl); (· rfl); simp only [Act.put]; rw [setCell_eq_setRow _ _ _ _ _ _ _ K.hx]; simp only [List.setIfInBounds_toArray, List.set_cons_zero, List.set_cons_succ]; have K1 := K.put (XX' := poRow a n c (-1) k) rfl; clear K c0 c1 c2; have K := K1; clear K1)
          | ((with_reducible refine Plan.load_lit 24 (.tmp 8) (X) ?_ K.hx Try.underlying24 ?_ ?_ ?_); (· rfl); (· rfl); (· exact po_info); simp only [Act.put, List.setIfInBounds_toArray, List.set_cons_zero, List.set_cons_succ])
          | ((with_reducible refine Plan.store_lit 24 (.tmp 6) _ (w.heap.size + 2) ?_ K.hr ?_ ?_ ?_ ?_ ?_ ?_); rotate_left; (· rfl); (· rfl); (· exact po_info); (· rfl); (· simp [Value.oneCell']); simp only [Act.put]))
        exact bodyPost_ret (Plan.results_cell_tmp (p := 6) (q := 7) rfl _ _ _ _ _ _ _ rfl (setRow_heap _ _ _ _ _ _ K.hr) Try.underlying24 rfl po_info) rfl ⟨_, _, _, _, _, rfl, ⟨rfl, rfl, HEND.out _ K.hb _⟩, below_setRow K.hb (show w.heap.size ≤ w.heap.size + 2 by omega) _⟩
end Go.Proofs.Ytjdlekjikemdpaa.Ents

/- The walks of the program's least, Host, Cleaner of pools. -/
namespace Go.Proofs.Ytjdlekjikemdpaa.Ents
open Go.RowKit Plan EntMath CntMath PoolMath LayMath
set_option maxHeartbeats 4000000 in
set_option maxRecDepth 20000 in
theorem poLeast_any (F : Nat → Prop) (L : List Int) (y : Int) (a : Option Addr) (n c : Nat) (w : World) (hl : IList w F a n c L) (hy : L[0]? = some y) (hn : n ≤ 1000) :
    Calls Try.prog 34 #[.slice a n c] w fun r w' => ∃ a' c', r = .returned (.tuple #[.int .i64 y, .slice a' (n - 1) c']) ∧ IList w' (fun b => w.heap.size ≤ b) a' (n - 1) c' (L.drop 1) ∧ Below w.heap.size w w' := by
  have hlen := hl.length
  have h0 : 0 < n := by have := (List.getElem?_eq_some_iff.1 hy).1; omega
  obtain ⟨x, y', rfl, hy', hc⟩ := hl.at' 0 h0
  rw [hy] at hy'
  obtain rfl := Option.some.inj hy'
  have hc0 : w.cell? x = some (.int .i64 y) := hc
  have hxl : x.block < w.heap.size := World.block_lt_of_cell? w _ hc0
  have HCL := Lib.hid (iclone_all (fun b => b < w.heap.size) L (some x) n c w.drew (hl.low) (by omega))
  have HDL := Lib.hid (fun v W (q : W.ownsRow w.heap.size 3 1 v n (intC L)) => idelete_any w.heap.size L v n W q h0)
  unfold OwnL at HCL
  unfold TailL at HDL
  have h0I : (0 : Int) < (n : Int) := by omega
  clear hl hy hc
  go_enter Try.func34, Try.ntmps34
  go_wp2_with fail
  refine Plan.start (fun W => W.cell? x = some (.int .i64 y)) [(0, true), (1, true), (2, true), (3, true), (4, false), (5, false), (6, true), (7, true)] (by kernel_rfl) (by kernel_rfl) (by kernel_rfl) (by kernel_rfl) hc0 ?_
  simp only [List.map_cons, List.map_nil, List.getElem?_toArray, List.getElem?_cons_zero, List.getElem?_cons_succ]
  repeat (first | (refine Plan.take ?_ (by rfl) ?_ ?_; rotate_left; (· rintro w9 u0; go_simp; (try rw [if_neg (by omega)]); all_goals (with_reducible rfl)); simp only [Act.put, List.setIfInBounds_toArray, List.set_cons_zero, List.set_cons_succ]) | (refine Plan.pass (by rfl) ?_; simp only [Act.put, List.setIfInBounds_toArray, List.set_cons_zero, List.set_cons_succ]))
  refine Plan.call (by rfl) 33 _ ?_ HCL.out ?_
  · go_simp
  rintro r9 w2 ⟨v, rfl, own, h2⟩
  have h2 : Below w.heap.size w w2 := (Below.refl w.heap.size w).drew.trans h2
  refine ⟨_, rfl, (h2.cell hxl).trans hc0, ?_⟩
  simp only [Act.put, List.setIfInBounds_toArray, List.set_cons_zero, List.set_cons_succ]
  repeat (first | (refine Plan.take ?_ (by rfl) ?_ ?_; rotate_left; (· rintro w9 u0; go_simp; (try rw [if_neg (by omega)]); all_goals (with_reducible rfl)); simp only [Act.put, List.setIfInBounds_toArray, List.set_cons_zero, List.set_cons_succ]) | (refine Plan.pass (by rfl) ?_; simp only [Act.put, List.setIfInBounds_toArray, List.set_cons_zero, List.set_cons_succ]))
  refine Plan.call (by rfl) 43 _ ?_ (HDL.out v w2 own) ?_
  · go_simp
  rintro r9 w3 ⟨a3, c3, rfl, l3, h3⟩
  have h3 : Below w.heap.size w w3 := h2.trans h3
  refine ⟨_, rfl, (h3.cell hxl).trans hc0, ?_⟩
  simp only [Act.put, List.setIfInBounds_toArray, List.set_cons_zero, List.set_cons_succ]
  repeat (first | (refine Plan.take ?_ (by rfl) ?_ ?_; rotate_left; (· rintro w9 u0; go_simp; (try rw [if_neg (by omega)]); all_goals (with_reducible rfl)); simp only [Act.put, List.setIfInBounds_toArray, List.set_cons_zero, List.set_cons_succ]) | (refine Plan.pass (by rfl) ?_; simp only [Act.put, List.setIfInBounds_toArray, List.set_cons_zero, List.set_cons_succ]))
  refine Plan.ends ?_
  go_wp2_with fail
  go_ret2
  exact ⟨a3, c3, rfl, l3, h3⟩
set_option maxHeartbeats 8000000 in
set_option maxRecDepth 20000 in
theorem poHost_any (F : Nat → Prop) (P : Po) (cz cs cb cq cd ch : Int) (a : Option Addr) (n c : Nat) (h k : Int) (w : World) (hl : FList w F a n c h k P) (hn : n ≤ 1000) :
    Calls Try.prog 19 #[poV a n c h k, confV cz cs cb cq cd ch] w
      (PoPost w F (hostP (decide (errN cz cs cb cq cd ch = 0)) (isN cz cs cb cq cd ch) P) (hostB (decide (errN cz cs cb cq cd ch = 0)) (isN cz cs cb cq cd ch) P)) := by
  have K := PW.start w (poRow a n c h k) (confRow cz cs cb cq cd ch)
  have HV := Lib.hid (fun W (q : Below w.heap.size w W) => poValid_any _ P cz cs cb cq cd ch a n c h k W (hl.same q))
  have HLEA := fun y (hy : P.free[0]? = some y) => fun W (q : Below w.heap.size w W) => poLeast_any _ P.free y a n c W ((hl.same q).f) hy hn
  unfold confV at *
  generalize decide (errN cz cs cb cq cd ch = 0) = V at *
  generalize isN cz cs cb cq cd ch = D at *
  obtain ⟨L, h0, k0⟩ := P
  obtain ⟨e1, e2, hl⟩ := hl
  simp only at e1 e2 hl
  subst e1 e2
  generalize h0 = h at *
  generalize k0 = k at *
  have hlen := hl.length
  have HEND := Lib.hid (fun W (q : Below w.heap.size w W) (cs : Array Value) => (show IList (W.setRow (w.heap.size + 2) cs) (Plus F w.heap.size) a n c L from
    ((hl.cut.on (Same.below (w' := W) q)).on (Same.row (r := w.heap.size + 2) (fun h9 => by have := h9.2; omega) cs)).mono (fun b _ h => .inl h.1)))
  simp only at HLEA
  cases hva : validP V D ⟨L, h, k⟩
  · have r1 : hostB V D ⟨L, h, k⟩ = false := by simp [hostB, hva]
    have r2 : hostP V D ⟨L, h, k⟩ = ⟨L, h, k⟩ := by unfold hostP; rw [r1]; rfl
    rw [hva] at HV
    rw [r1, r2]
    clear hva hl r1 r2 HLEA
    go_enter Try.func19, Try.ntmps19
    generalize hw0 : ((w.alloc (poRow a n c h k)).alloc (confRow cz cs cb cq cd ch)).alloc (poRow none 0 0 0 0) = w0 at *
    go_wp2_with (first
      | ((with_reducible refine Plan.load_lit 24 (.tmp 2) (w.heap.size) ?_ K.hp Try.underlying24 ?_ ?_ ?_); (· rfl); (· rfl); (· exact po_info); simp only [Act.put, List.setIfInBounds_toArray, List.set_cons_zero, List.set_cons_succ])
      | ((with_reducible refine Plan.load_lit 26 (.tmp 3) (w.heap.size + 1) ?_ K.hc Try.underlying26 ?_ ?_ ?_); (· rfl); (· rfl); (· exact conf_info); simp only [Act.put, List.setIfInBounds_toArray, List.set_cons_zero, List.set_cons_succ])
      | (go_at_call 22; ((with_reducible refine (HV.out _ K.hb).mono ?_); rintro r9 w1 ⟨rfl, h1⟩; have K1 := K.on h1; clear K hw0 HV h1; have K := K1; clear K1; obtain ⟨c0, c1, c2⟩ := three_row K.hp))
      | ((with_reducible refine Plan.store_lit 24 (.tmp 4) _ (w.heap.size + 2) ?_ K.hr ?_ ?_ ?_ ?_ ?_ ?_); rotate_left; (· rfl); (· rfl); (· exact po_info); (· rfl); (· simp [Value.oneCell']); simp only [Act.put]))
    exact bodyPost_ret (Plan.results_cell_tmp (p := 4) (q := 5) rfl _ _ _ _ _ _ _ rfl (setRow_heap _ _ _ _ _ _ K.hr) Try.underlying24 rfl po_info) rfl ⟨_, _, _, _, _, rfl, ⟨rfl, rfl, HEND.out _ K.hb _⟩, below_setRow K.hb (show w.heap.size ≤ w.heap.size + 2 by omega) _⟩
  · rw [hva] at HV
    by_cases q1 : h = -1
    · have t9 : (h != (-1 : Int)) = false := by simpa using q1
      by_cases q2 : n ≤ 2
      · have r1 : hostB V D ⟨L, h, k⟩ = false := by simp [hostB, hlen]; omega
        have r2 : hostP V D ⟨L, h, k⟩ = ⟨L, h, k⟩ := by unfold hostP; rw [r1]; rfl
        have t8 : decide ((n : Int) ≤ 2) = true := by simp; omega
        have t7 : decide (n ≤ 2) = true := by simp; omega
        rw [r1, r2]
        clear q1 q2 r1 r2 hl HLEA
        go_enter Try.func19, Try.ntmps19
        generalize hw0 : ((w.alloc (poRow a n c h k)).alloc (confRow cz cs cb cq cd ch)).alloc (poRow none 0 0 0 0) = w0 at *
        go_wp2_with (first
          | ((with_reducible refine Plan.load_lit 24 (.tmp 2) (w.heap.size) ?_ K.hp Try.underlying24 ?_ ?_ ?_); (· rfl); (· rfl); (· exact po_info); simp only [Act.put, List.setIfInBounds_toArray, List.set_cons_zero, List.set_cons_succ])
          | ((with_reducible refine Plan.load_lit 26 (.tmp 3) (w.heap.size + 1) ?_ K.hc Try.underlying26 ?_ ?_ ?_); (· rfl); (· rfl); (· exact conf_info); simp only [Act.put, List.setIfInBounds_toArray, List.set_cons_zero, List.set_cons_succ])
          | (go_at_call 22; ((with_reducible refine (HV.out _ K.hb).mono ?_); rintro r9 w1 ⟨rfl, h1⟩; have K1 := K.on h1; clear K hw0 HV h1; have K := K1; clear K1; obtain ⟨c0, c1, c2⟩ := three_row K.hp))
          | ((with_reducible refine Plan.store_lit 24 (.tmp 4) _ (w.heap.size + 2) ?_ K.hr ?_ ?_ ?_ ?_ ?_ ?_); rotate_left; (· rfl); (· rfl); (· exact po_info); (· rfl); (· simp [Value.oneCell']); simp only [Act.put]))
        exact bodyPost_ret (Plan.results_cell_tmp (p := 4) (q := 5) rfl _ _ _ _ _ _ _ rfl (setRow_heap _ _ _ _ _ _ K.hr) Try.underlying24 rfl po_info) rfl ⟨_, _, _, _, _, rfl, ⟨rfl, rfl, HEND.out _ K.hb _⟩, below_setRow K.hb (show w.heap.size ≤ w.heap.size + 2 by omega) _⟩
      · have t8 : decide ((n : Int) ≤ 2) = false := by simp; omega
        have t7 : decide (n ≤ 2) = false := by simp; omega
        obtain ⟨x, y0, rfl, hz, hc⟩ := hl.at' 0 (by omega)
        have r1 : hostB V D ⟨L, h, k⟩ = true := by simp only [hostB]; rw [hva, decide_eq_true q1, decide_eq_true (show 2 < L.length by omega)]; rfl
        have r2 : hostP V D ⟨L, h, k⟩ = ⟨L.drop 1, y0, k⟩ := by unfold hostP; rw [r1, if_pos rfl]; simp only [List.getD_eq_getElem?_getD, hz, Option.getD_some]
        rw [r1, r2]
        have HLE := Lib.hid (HLEA y0 hz)
        clear hl hz hc r1 r2 q1 q2 HLEA HEND
        go_enter Try.func19, Try.ntmps19
        generalize hw0 : ((w.alloc (poRow (some x) n c h k)).alloc (confRow cz cs cb cq cd ch)).alloc (poRow none 0 0 0 0) = w0 at *
        go_wp2_with (first
          | ((with_reducible refine Plan.load_lit 24 (.tmp 2) (w.heap.size) ?_ K.hp Try.underlying24 ?_ ?_ ?_); (· rfl); (· rfl); (· exact po_info); simp only [Act.put, List.setIfInBounds_toArray, List.set_cons_zero, List.set_cons_succ])
          | ((with_reducible refine Plan.load_lit 26 (.tmp 3) (w.heap.size + 1) ?_ K.hc Try.underlying26 ?_ ?_ ?_); (· rfl); (· rfl); (· exact conf_info); simp only [Act.put, List.setIfInBounds_toArray, List.set_cons_zero, List.set_cons_succ])
          | (go_at_call 22; ((with_reducible refine (HV.out _ K.hb).mono ?_); rintro r9 w1 ⟨rfl, h1⟩; have K1 := K.on h1; clear K hw0 HV h1; have K := K1; clear K1; obtain ⟨c0, c1, c2⟩ := three_row K.hp))
          | ((with_reducible refine Plan.store_lit 24 (.tmp 6) _ (w1.heap.size) ?_ (heap_alloc_new w1 (poRow none 0 0 0 0)) ?_ ?_ ?_ ?_ ?_ ?_); rotate_left; (· rfl); (· rfl); (· exact po_info); (· rfl); (· simp [Value.oneCell']); simp only [Act.put]; have K1 := (PX.of K (poRow none 0 0 0 0)).put (cs' := #[.slice (some x) n c, .int .i64 h, .int .i64 k]) (XX' := poRow (some x) n c h k) rfl; generalize hw2 : (w1.alloc (poRow none 0 0 0 0)).setRow w1.heap.size #[.slice (some x) n c, .int .i64 h, .int .i64 k] = w2 at *; generalize w1.heap.size = X at *; clear K hw2 c0 c1 c2; have K := K1; clear K1; obtain ⟨c0, c1, c2⟩ := three_row K.hp)
          | (go_at_call 34; ((with_reducible refine (HLE.out _ K.hb).mono ?_); rintro r9 w3 ⟨a9, c9, rfl, l9, h3⟩; have hlt9 := K.lt; have hX9 := K.hX; have K1 := K.on h3; clear K c0 c1 c2 h3 HLE; have K := K1; clear K1))
          | ((with_reducible refine store_int_c 3 (.tmp 30) (.tmp 28) X 1 .i64 y0 ?_ ?_ ⟨_, (three_row K.hx).2.1⟩ (free_row_c K.hx) Put.int_info1 ?_); (· rfl); (· rfl); simp only [Act.put]; rw [setCell_eq_setRow _ _ _ _ _ _ _ K.hx]; simp only [List.setIfInBounds_toArray, List.set_cons_zero, List.set_cons_succ]; have K1 := K.put (XX' := poRow (some x) n c y0 k) rfl; have l8 := l9.on (Same.row (r := X) (fun h => by have h8 : w2.heap.size ≤ X := h; omega) #[.slice (some x) n c, .int .i64 y0, .int .i64 k]); generalize w3.setRow X #[.slice (some x) n c, .int .i64 y0, .int .i64 k] = w4 at *; clear K l9; have K := K1; clear K1)
          | ((with_reducible refine store_slice_c 22 (.tmp 31) (.tmp 29) X 0 a9 (n - 1) c9 ?_ ?_ ⟨_, (three_row K.hx).1⟩ (free_row_c K.hx) ints_info1 ?_); (· rfl); (· rfl); simp only [Act.put]; rw [setCell_eq_setRow _ _ _ _ _ _ _ K.hx]; simp only [List.setIfInBounds_toArray, List.set_cons_zero]; have l7 := l8.on (Same.row (r := X) (fun h => by have h8 : w2.heap.size ≤ X := h; omega) #[.slice a9 (n - 1) c9, .int .i64 y0, .int .i64 k]); have K1 := K.put (XX' := poRow a9 (n - 1) c9 y0 k) rfl; clear K l8; have K := K1; clear K1)
          | ((with_reducible refine Plan.load_lit 24 (.tmp 6) (X) ?_ K.hx Try.underlying24 ?_ ?_ ?_); (· rfl); (· rfl); (· exact po_info); simp only [Act.put, List.setIfInBounds_toArray, List.set_cons_zero, List.set_cons_succ])
          | ((with_reducible refine Plan.store_lit 24 (.tmp 4) _ (w.heap.size + 2) ?_ K.hr ?_ ?_ ?_ ?_ ?_ ?_); rotate_left; (· rfl); (· rfl); (· exact po_info); (· rfl); (· simp [Value.oneCell']); simp only [Act.put]))
        exact bodyPost_ret (Plan.results_cell_tmp (p := 4) (q := 5) rfl _ _ _ _ _ _ _ rfl (setRow_heap _ _ _ _ _ _ K.hr) Try.underlying24 rfl po_info) rfl ⟨_, _, _, _, _, rfl, ⟨rfl, rfl, (l7.on (Same.row (r := w.heap.size + 2) (fun h => by have h8 : w2.heap.size ≤ w.heap.size + 2 := h; omega) _)).mono (fun b _ h => .inr (by have h8 : w2.heap.size ≤ b := h; omega))⟩, below_setRow K.hb (show w.heap.size ≤ w.heap.size + 2 by omega) _⟩
    · have t9 : (h != (-1 : Int)) = true := by simpa using q1
      have r1 : hostB V D ⟨L, h, k⟩ = false := by simp [hostB, q1]
      have r2 : hostP V D ⟨L, h, k⟩ = ⟨L, h, k⟩ := by unfold hostP; rw [r1]; rfl
      rw [r1, r2]
      clear q1 r1 r2 hl HLEA
      go_enter Try.func19, Try.ntmps19
      generalize hw0 : ((w.alloc (poRow a n c h k)).alloc (confRow cz cs cb cq cd ch)).alloc (poRow none 0 0 0 0) = w0 at *
      go_wp2_with (first
        | ((with_reducible refine Plan.load_lit 24 (.tmp 2) (w.heap.size) ?_ K.hp Try.underlying24 ?_ ?_ ?_); (· rfl); (· rfl); (· exact po_info); simp only [Act.put, List.setIfInBounds_toArray, List.set_cons_zero, List.set_cons_succ])
        | ((with_reducible refine Plan.load_lit 26 (.tmp 3) (w.heap.size + 1) ?_ K.hc Try.underlying26 ?_ ?_ ?_); (· rfl); (· rfl); (· exact conf_info); simp only [Act.put, List.setIfInBounds_toArray, List.set_cons_zero, List.set_cons_succ])
        | (go_at_call 22; ((with_reducible refine (HV.out _ K.hb).mono ?_); rintro r9 w1 ⟨rfl, h1⟩; have K1 := K.on h1; clear K hw0 HV h1; have K := K1; clear K1; obtain ⟨c0, c1, c2⟩ := three_row K.hp))
        | ((with_reducible refine Plan.store_lit 24 (.tmp 4) _ (w.heap.size + 2) ?_ K.hr ?_ ?_ ?_ ?_ ?_ ?_); rotate_left; (· rfl); (· rfl); (· exact po_info); (· rfl); (· simp [Value.oneCell']); simp only [Act.put]))
      exact bodyPost_ret (Plan.results_cell_tmp (p := 4) (q := 5) rfl _ _ _ _ _ _ _ rfl (setRow_heap _ _ _ _ _ _ K.hr) Try.underlying24 rfl po_info) rfl ⟨_, _, _, _, _, rfl, ⟨rfl, rfl, HEND.out _ K.hb _⟩, below_setRow K.hb (show w.heap.size ≤ w.heap.size + 2 by omega) _⟩
set_option maxHeartbeats 8000000 in
set_option maxRecDepth 20000 in
theorem poClean_any (F : Nat → Prop) (P : Po) (cz cs cb cq cd ch : Int) (a : Option Addr) (n c : Nat) (h k : Int) (w : World) (hl : FList w F a n c h k P) (hn : n ≤ 1000) :
    Calls Try.prog 20 #[poV a n c h k, confV cz cs cb cq cd ch] w
      (PoPost w F (cleanP (decide (errN cz cs cb cq cd ch = 0)) (isN cz cs cb cq cd ch) P) (cleanB (decide (errN cz cs cb cq cd ch = 0)) (isN cz cs cb cq cd ch) P)) := by
  have K := PW.start w (poRow a n c h k) (confRow cz cs cb cq cd ch)
  have HV := Lib.hid (fun W (q : Below w.heap.size w W) => poValid_any _ P cz cs cb cq cd ch a n c h k W (hl.same q))
  have HLEA := fun y (hy : P.free[0]? = some y) => fun W (q : Below w.heap.size w W) => poLeast_any _ P.free y a n c W ((hl.same q).f) hy hn
  unfold confV at *
  generalize decide (errN cz cs cb cq cd ch = 0) = V at *
  generalize isN cz cs cb cq cd ch = D at *
  obtain ⟨L, h0, k0⟩ := P
  obtain ⟨e1, e2, hl⟩ := hl
  simp only at e1 e2 hl
  subst e1 e2
  generalize h0 = h at *
  generalize k0 = k at *
  have hlen := hl.length
  have HEND := Lib.hid (fun W (q : Below w.heap.size w W) (cs : Array Value) => (show IList (W.setRow (w.heap.size + 2) cs) (Plus F w.heap.size) a n c L from
    ((hl.cut.on (Same.below (w' := W) q)).on (Same.row (r := w.heap.size + 2) (fun h9 => by have := h9.2; omega) cs)).mono (fun b _ h => .inl h.1)))
  simp only at HLEA
  cases hva : validP V D ⟨L, h, k⟩
  · have r1 : cleanB V D ⟨L, h, k⟩ = false := by simp [cleanB, hva]
    have r2 : cleanP V D ⟨L, h, k⟩ = ⟨L, h, k⟩ := by unfold cleanP; rw [r1]; rfl
    rw [hva] at HV
    rw [r1, r2]
    clear hva hl r1 r2 HLEA
    go_enter Try.func20, Try.ntmps20
    generalize hw0 : ((w.alloc (poRow a n c h k)).alloc (confRow cz cs cb cq cd ch)).alloc (poRow none 0 0 0 0) = w0 at *
    go_wp2_with (first
      | ((with_reducible refine Plan.load_lit 24 (.tmp 2) (w.heap.size) ?_ K.hp Try.underlying24 ?_ ?_ ?_); (· rfl); (· rfl); (· exact po_info); simp only [Act.put, List.setIfInBounds_toArray, List.set_cons_zero, List.set_cons_succ])
      | ((with_reducible refine Plan.load_lit 26 (.tmp 3) (w.heap.size + 1) ?_ K.hc Try.underlying26 ?_ ?_ ?_); (· rfl); (· rfl); (· exact conf_info); simp only [Act.put, List.setIfInBounds_toArray, List.set_cons_zero, List.set_cons_succ])
      | (go_at_call 22; ((with_reducible refine (HV.out _ K.hb).mono ?_); rintro r9 w1 ⟨rfl, h1⟩; have K1 := K.on h1; clear K hw0 HV h1; have K := K1; clear K1; obtain ⟨c0, c1, c2⟩ := three_row K.hp))
      | ((with_reducible refine Plan.store_lit 24 (.tmp 4) _ (w.heap.size + 2) ?_ K.hr ?_ ?_ ?_ ?_ ?_ ?_); rotate_left; (· rfl); (· rfl); (· exact po_info); (· rfl); (· simp [Value.oneCell']); simp only [Act.put]))
    exact bodyPost_ret (Plan.results_cell_tmp (p := 4) (q := 5) rfl _ _ _ _ _ _ _ rfl (setRow_heap _ _ _ _ _ _ K.hr) Try.underlying24 rfl po_info) rfl ⟨_, _, _, _, _, rfl, ⟨rfl, rfl, HEND.out _ K.hb _⟩, below_setRow K.hb (show w.heap.size ≤ w.heap.size + 2 by omega) _⟩
  · rw [hva] at HV
    by_cases q1 : k = -1
    · have t9 : (k != (-1 : Int)) = false := by simpa using q1
      by_cases q2 : n ≤ 0
      · have r1 : cleanB V D ⟨L, h, k⟩ = false := by simp [cleanB, hlen]; omega
        have r2 : cleanP V D ⟨L, h, k⟩ = ⟨L, h, k⟩ := by unfold cleanP; rw [r1]; rfl
        have t8 : ((n : Int) == 0) = true := by simp; omega
        have t7 : (n == 0) = true := by simp; omega
        rw [r1, r2]
        clear q1 q2 r1 r2 hl HLEA
        go_enter Try.func20, Try.ntmps20
        generalize hw0 : ((w.alloc (poRow a n c h k)).alloc (confRow cz cs cb cq cd ch)).alloc (poRow none 0 0 0 0) = w0 at *
        go_wp2_with (first
          | ((with_reducible refine Plan.load_lit 24 (.tmp 2) (w.heap.size) ?_ K.hp Try.underlying24 ?_ ?_ ?_); (· rfl); (· rfl); (· exact po_info); simp only [Act.put, List.setIfInBounds_toArray, List.set_cons_zero, List.set_cons_succ])
          | ((with_reducible refine Plan.load_lit 26 (.tmp 3) (w.heap.size + 1) ?_ K.hc Try.underlying26 ?_ ?_ ?_); (· rfl); (· rfl); (· exact conf_info); simp only [Act.put, List.setIfInBounds_toArray, List.set_cons_zero, List.set_cons_succ])
          | (go_at_call 22; ((with_reducible refine (HV.out _ K.hb).mono ?_); rintro r9 w1 ⟨rfl, h1⟩; have K1 := K.on h1; clear K hw0 HV h1; have K := K1; clear K1; obtain ⟨c0, c1, c2⟩ := three_row K.hp))
          | ((with_reducible refine Plan.store_lit 24 (.tmp 4) _ (w.heap.size + 2) ?_ K.hr ?_ ?_ ?_ ?_ ?_ ?_); rotate_left; (· rfl); (· rfl); (· exact po_info); (· rfl); (· simp [Value.oneCell']); simp only [Act.put]))
        exact bodyPost_ret (Plan.results_cell_tmp (p := 4) (q := 5) rfl _ _ _ _ _ _ _ rfl (setRow_heap _ _ _ _ _ _ K.hr) Try.underlying24 rfl po_info) rfl ⟨_, _, _, _, _, rfl, ⟨rfl, rfl, HEND.out _ K.hb _⟩, below_setRow K.hb (show w.heap.size ≤ w.heap.size + 2 by omega) _⟩
      · have t8 : ((n : Int) == 0) = false := by simp; omega
        have t7 : (n == 0) = false := by simp; omega
        obtain ⟨x, y0, rfl, hz, hc⟩ := hl.at' 0 (by omega)
        have r1 : cleanB V D ⟨L, h, k⟩ = true := by simp only [cleanB]; rw [hva, decide_eq_true q1, decide_eq_true (show 0 < L.length by omega)]; rfl
        have r2 : cleanP V D ⟨L, h, k⟩ = ⟨L.drop 1, h, y0⟩ := by unfold cleanP; rw [r1, if_pos rfl]; simp only [List.getD_eq_getElem?_getD, hz, Option.getD_some]
        rw [r1, r2]
        have HLE := Lib.hid (HLEA y0 hz)
        clear hl hz hc r1 r2 q1 q2 HLEA HEND
        go_enter Try.func20, Try.ntmps20
        generalize hw0 : ((w.alloc (poRow (some x) n c h k)).alloc (confRow cz cs cb cq cd ch)).alloc (poRow none 0 0 0 0) = w0 at *
        go_wp2_with (first
          | ((with_reducible refine Plan.load_lit 24 (.tmp 2) (w.heap.size) ?_ K.hp Try.underlying24 ?_ ?_ ?_); (· rfl); (· rfl); (· exact po_info); simp only [Act.put, List.setIfInBounds_toArray, List.set_cons_zero, List.set_cons_succ])
          | ((with_reducible refine Plan.load_lit 26 (.tmp 3) (w.heap.size + 1) ?_ K.hc Try.underlying26 ?_ ?_ ?_); (· rfl); (· rfl); (· exact conf_info); simp only [Act.put, List.setIfInBounds_toArray, List.set_cons_zero, List.set_cons_succ])
          | (go_at_call 22; ((with_reducible refine (HV.out _ K.hb).mono ?_); rintro r9 w1 ⟨rfl, h1⟩; have K1 := K.on h1; clear K hw0 HV h1; have K := K1; clear K1; obtain ⟨c0, c1, c2⟩ := three_row K.hp))
          | ((with_reducible refine Plan.store_lit 24 (.tmp 6) _ (w1.heap.size) ?_ (heap_alloc_new w1 (poRow none 0 0 0 0)) ?_ ?_ ?_ ?_ ?_ ?_); rotate_left; (· rfl); (· rfl); (· exact po_info); (· rfl); (· simp [Value.oneCell']); simp only [Act.put]; have K1 := (PX.of K (poRow none 0 0 0 0)).put (cs' := #[.slice (some x) n c, .int .i64 h, .int .i64 k]) (XX' := poRow (some x) n c h k) rfl; generalize hw2 : (w1.alloc (poRow none 0 0 0 0)).setRow w1.heap.size #[.slice (some x) n c, .int .i64 h, .int .i64 k] = w2 at *; generalize w1.heap.size = X at *; clear K hw2 c0 c1 c2; have K := K1; clear K1; obtain ⟨c0, c1, c2⟩ := three_row K.hp)
          | (go_at_call 34; ((with_reducible refine (HLE.out _ K.hb).mono ?_); rintro r9 w3 ⟨a9, c9, rfl, l9, h3⟩; have hlt9 := K.lt; have hX9 := K.hX; have K1 := K.on h3; clear K c0 c1 c2 h3 HLE; have K := K1; clear K1))
          | ((with_reducible refine store_int_c 3 (.tmp 30) (.tmp 28) X 2 .i64 y0 ?_ ?_ ⟨_, (three_row K.hx).2.2⟩ (free_row_c K.hx) Put.int_info1 ?_); (· rfl); (· rfl); simp only [Act.put]; rw [setCell_eq_setRow _ _ _ _ _ _ _ K.hx]; simp only [List.setIfInBounds_toArray, List.set_cons_zero, List.set_cons_succ]; have K1 := K.put (XX' := poRow (some x) n c h y0) rfl; have l8 := l9.on (Same.row (r := X) (fun h => by have h8 : w2.heap.size ≤ X := h; omega) #[.slice (some x) n c, .int .i64 h, .int .i64 y0]); generalize w3.setRow X #[.slice (some x) n c, .int .i64 h, .int .i64 y0] = w4 at *; clear K l9; have K := K1; clear K1)
          | ((with_reducible refine store_slice_c 22 (.tmp 31) (.tmp 29) X 0 a9 (n - 1) c9 ?_ ?_ ⟨_, (three_row K.hx).1⟩ (free_row_c K.hx) ints_info1 ?_); (· rfl); (· rfl); simp only [Act.put]; rw [setCell_eq_setRow _ _ _ _ _ _ _ K.hx]; simp only [List.setIfInBounds_toArray, List.set_cons_zero]; have l7 := l8.on (Same.row (r := X) (fun h => by have h8 : w2.heap.size ≤ X := h; omega) #[.slice a9 (n - 1) c9, .int .i64 h, .int .i64 y0]); have K1 := K.put (XX' := poRow a9 (n - 1) c9 h y0) rfl; clear K l8; have K := K1; clear K1)
          | ((with_reducible refine Plan.load_lit 24 (.tmp 6) (X) ?_ K.hx Try.underlying24 ?_ ?_ ?_); (· rfl); (· rfl); (· exact po_info); simp only [Act.put, List.setIfInBounds_toArray, List.set_cons_zero, List.set_cons_succ])
          | ((with_reducible refine Plan.store_lit 24 (.tmp 4) _ (w.heap.size + 2) ?_ K.hr ?_ ?_ ?_ ?_ ?_ ?_); rotate_left; (· rfl); (· rfl); (· exact po_info); (· rfl); (· simp [Value.oneCell']); simp only [Act.put]))
        exact bodyPost_ret (Plan.results_cell_tmp (p := 4) (q := 5) rfl _ _ _ _ _ _ _ rfl (setRow_heap _ _ _ _ _ _ K.hr) Try.underlying24 rfl po_info) rfl ⟨_, _, _, _, _, rfl, ⟨rfl, rfl, (l7.on (Same.row (r := w.heap.size + 2) (fun h => by have h8 : w2.heap.size ≤ w.heap.size + 2 := h; omega) _)).mono (fun b _ h => .inr (by have h8 : w2.heap.size ≤ b := h; omega))⟩, below_setRow K.hb (show w.heap.size ≤ w.heap.size + 2 by omega) _⟩
    · have t9 : (k != (-1 : Int)) = true := by simpa using q1
      have r1 : cleanB V D ⟨L, h, k⟩ = false := by simp [cleanB, q1]
      have r2 : cleanP V D ⟨L, h, k⟩ = ⟨L, h, k⟩ := by unfold cleanP; rw [r1]; rfl
      rw [r1, r2]
      clear q1 r1 r2 hl HLEA
      go_enter Try.func20, Try.ntmps20
      generalize hw0 : ((w.alloc (poRow a n c h k)).alloc (confRow cz cs cb cq cd ch)).alloc (poRow none 0 0 0 0) = w0 at *
      go_wp2_with (first
        | ((with_reducible refine Plan.load_lit 24 (.tmp 2) (w.heap.size) ?_ K.hp Try.underlying24 ?_ ?_ ?_); (· rfl); (· rfl); (· exact po_info); simp only [Act.put, List.setIfInBounds_toArray, List.set_cons_zero, List.set_cons_succ])
        | ((with_reducible refine Plan.load_lit 26 (.tmp 3) (w.heap.size + 1) ?_ K.hc Try.underlying26 ?_ ?_ ?_); (· rfl); (· rfl); (· exact conf_info); simp only [Act.put, List.setIfInBounds_toArray, List.set_cons_zero, List.set_cons_succ])
        | (go_at_call 22; ((with_reducible refine (HV.out _ K.hb).mono ?_); rintro r9 w1 ⟨rfl, h1⟩; have K1 := K.on h1; clear K hw0 HV h1; have K := K1; clear K1; obtain ⟨c0, c1, c2⟩ := three_row K.hp))
        | ((with_reducible refine Plan.store_lit 24 (.tmp 4) _ (w.heap.size + 2) ?_ K.hr ?_ ?_ ?_ ?_ ?_ ?_); rotate_left; (· rfl); (· rfl); (· exact po_info); (· rfl); (· simp [Value.oneCell']); simp only [Act.put]))
      exact bodyPost_ret (Plan.results_cell_tmp (p := 4) (q := 5) rfl _ _ _ _ _ _ _ rfl (setRow_heap _ _ _ _ _ _ K.hr) Try.underlying24 rfl po_info) rfl ⟨_, _, _, _, _, rfl, ⟨rfl, rfl, HEND.out _ K.hb _⟩, below_setRow K.hb (show w.heap.size ≤ w.heap.size + 2 by omega) _⟩
end Go.Proofs.Ytjdlekjikemdpaa.Ents

/- The walk of the program's Put of pools; all of it. -/
namespace Go.Proofs.Ytjdlekjikemdpaa.Ents
open Go.RowKit Plan EntMath CntMath PoolMath LayMath
set_option maxHeartbeats 8000000 in
set_option maxRecDepth 20000 in
theorem poPut_any (F : Nat → Prop) (P : Po) (cz cs cb cq cd ch : Int) (z : Int) (a : Option Addr) (n c : Nat) (h k : Int) (w : World) (hl : FList w F a n c h k P) (hn : n ≤ 1000) :
    Calls Try.prog 18 #[poV a n c h k, confV cz cs cb cq cd ch, .int .i64 z] w
      (PoPost w F (putP (decide (errN cz cs cb cq cd ch = 0)) (isN cz cs cb cq cd ch) P z) (putB (decide (errN cz cs cb cq cd ch = 0)) (isN cz cs cb cq cd ch) P z)) := by
  have K := PW.start w (poRow a n c h k) (confRow cz cs cb cq cd ch)
  have HV := Lib.hid (fun W (q : Below w.heap.size w W) => poValid_any _ P cz cs cb cq cd ch a n c h k W (hl.same q))
  have HD := Lib.hid (isData_any cz cs cb cq cd ch z)
  unfold confV at *
  generalize decide (errN cz cs cb cq cd ch = 0) = V at *
  generalize isN cz cs cb cq cd ch = D at *
  obtain ⟨L, h0, k0⟩ := P
  obtain ⟨e1, e2, hl⟩ := hl
  simp only at e1 e2 hl
  subst e1 e2
  generalize h0 = h at *
  generalize k0 = k at *
  have hlen := hl.length
  have HEND := Lib.hid (fun W (q : Below w.heap.size w W) (cs : Array Value) => (show IList (W.setRow (w.heap.size + 2) cs) (Plus F w.heap.size) a n c L from
    ((hl.cut.on (Same.below (w' := W) q)).on (Same.row (r := w.heap.size + 2) (fun h9 => by have := h9.2; omega) cs)).mono (fun b _ h => .inl h.1)))
  have HBS := Lib.hid (fun (hs : L.Pairwise (· < ·)) W (q : Below w.heap.size w W) => isearch_any _ L z a n c W (hl.same q) hs (by omega))
  have HCL := Lib.hid (fun W (q : Below w.heap.size w W) => iclone_all _ L a n c W (hl.same q) (by omega))
  have HINS := Lib.hid (fun B v W (q : W.ownsRow B 3 1 v n (intC L)) (e1 : B ≤ W.heap.size) vb (e2 : W.heap[vb]? = some (.cells #[.int .i64 z] 3 (0, 0))) (e3 : ∀ b, v.ownBlock = some b → b ≠ vb) => iinsert_any B L z v n (cntL L z) vb W q e1 (by have := @cnt_le L z; omega) e2 e3 (by omega))
  unfold OwnL at HCL
  unfold TailL at HINS
  cases hva : validP V D ⟨L, h, k⟩
  · rw [hva] at HV
    have r1 : putB V D ⟨L, h, k⟩ z = false := by simp [putB, hva]
    have r2 : putP V D ⟨L, h, k⟩ z = ⟨L, h, k⟩ := by unfold putP; rw [r1]; rfl
    rw [r1, r2]
    clear hl r1 r2 HBS HCL HINS
    go_enter Try.func18, Try.ntmps18
    generalize hw0 : ((w.alloc (poRow a n c h k)).alloc (confRow cz cs cb cq cd ch)).alloc (poRow none 0 0 0 0) = w0 at *
    go_wp2_with (first
      | ((with_reducible refine Plan.load_lit 24 (.tmp 3) (w.heap.size) ?_ K.hp Try.underlying24 ?_ ?_ ?_); (· rfl); (· rfl); (· exact po_info); simp only [Act.put, List.setIfInBounds_toArray, List.set_cons_zero, List.set_cons_succ])
      | ((with_reducible refine Plan.load_lit 26 (.tmp 4) (w.heap.size + 1) ?_ K.hc Try.underlying26 ?_ ?_ ?_); (· rfl); (· rfl); (· exact conf_info); simp only [Act.put, List.setIfInBounds_toArray, List.set_cons_zero, List.set_cons_succ])
      | (go_at_call 22; ((with_reducible refine (HV.out _ K.hb).mono ?_); rintro r9 w1 ⟨rfl, h1⟩; have K1 := K.on h1; clear K hw0 HV h1; have K := K1; clear K1; obtain ⟨c0, c1, c2⟩ := three_row K.hp))
      | ((with_reducible refine load_lit_gc 26 (.tmp 4) (w.heap.size + 1) ?_ ?_ K.hc Try.underlying26 ?_ ?_ ?_); (· rfl); (· rfl); (· rfl); (· exact conf_info); simp only [Act.put, List.setIfInBounds_toArray, List.set_cons_zero, List.set_cons_succ])
      | (go_at_call 30; ((with_reducible refine (HD.out _).mono ?_); rintro r9 w2 ⟨rfl, h1⟩; have K1 := K.on h1; clear K c0 c1 c2 h1; have K := K1; clear K1; obtain ⟨c0, c1, c2⟩ := three_row K.hp))
      | (go_at_call 31; ((with_reducible refine (HS.out _ K.hb).mono ?_); rintro r9 w3 ⟨rfl, h1⟩; have K1 := K.on h1; clear K c0 c1 c2 h1; have K := K1; clear K1; obtain ⟨c0, c1, c2⟩ := three_row K.hp))
      | ((with_reducible refine Plan.store_lit 24 (.tmp 6) _ (w.heap.size + 2) ?_ K.hr ?_ ?_ ?_ ?_ ?_ ?_); rotate_left; (· rfl); (· rfl); (· exact po_info); (· rfl); (· simp [Value.oneCell']); simp only [Act.put]))
    exact bodyPost_ret (Plan.results_cell_tmp (p := 6) (q := 7) rfl _ _ _ _ _ _ _ rfl (setRow_heap _ _ _ _ _ _ K.hr) Try.underlying24 rfl po_info) rfl ⟨_, _, _, _, _, rfl, ⟨rfl, rfl, HEND.out _ K.hb _⟩, below_setRow K.hb (show w.heap.size ≤ w.heap.size + 2 by omega) _⟩
  · have hV : V = true := by
      cases V
      · rw [po_no rfl] at hva
        cases hva
      · rfl
    have hasc : Asc D L := by
      subst hV
      exact (valid_iff.1 hva).1
    have HS := Lib.hid (HBS.out hasc.2)
    have HIC := Lib.hid (@ins_cnt L z hasc.2)
    clear hV hasc HBS
    cases hd : D z
    · rw [hva] at HV
      rw [hd] at HD
      have r1 : putB V D ⟨L, h, k⟩ z = false := by simp [putB, hd]
      have r2 : putP V D ⟨L, h, k⟩ z = ⟨L, h, k⟩ := by unfold putP; rw [r1]; rfl
      rw [r1, r2]
      clear hl r1 r2 HCL HINS HS HIC hva
      go_enter Try.func18, Try.ntmps18
      generalize hw0 : ((w.alloc (poRow a n c h k)).alloc (confRow cz cs cb cq cd ch)).alloc (poRow none 0 0 0 0) = w0 at *
      go_wp2_with (first
        | ((with_reducible refine Plan.load_lit 24 (.tmp 3) (w.heap.size) ?_ K.hp Try.underlying24 ?_ ?_ ?_); (· rfl); (· rfl); (· exact po_info); simp only [Act.put, List.setIfInBounds_toArray, List.set_cons_zero, List.set_cons_succ])
        | ((with_reducible refine Plan.load_lit 26 (.tmp 4) (w.heap.size + 1) ?_ K.hc Try.underlying26 ?_ ?_ ?_); (· rfl); (· rfl); (· exact conf_info); simp only [Act.put, List.setIfInBounds_toArray, List.set_cons_zero, List.set_cons_succ])
        | (go_at_call 22; ((with_reducible refine (HV.out _ K.hb).mono ?_); rintro r9 w1 ⟨rfl, h1⟩; have K1 := K.on h1; clear K hw0 HV h1; have K := K1; clear K1; obtain ⟨c0, c1, c2⟩ := three_row K.hp))
        | ((with_reducible refine load_lit_gc 26 (.tmp 4) (w.heap.size + 1) ?_ ?_ K.hc Try.underlying26 ?_ ?_ ?_); (· rfl); (· rfl); (· rfl); (· exact conf_info); simp only [Act.put, List.setIfInBounds_toArray, List.set_cons_zero, List.set_cons_succ])
        | (go_at_call 30; ((with_reducible refine (HD.out _).mono ?_); rintro r9 w2 ⟨rfl, h1⟩; have K1 := K.on h1; clear K c0 c1 c2 h1; have K := K1; clear K1; obtain ⟨c0, c1, c2⟩ := three_row K.hp))
        | (go_at_call 31; ((with_reducible refine (HS.out _ K.hb).mono ?_); rintro r9 w3 ⟨rfl, h1⟩; have K1 := K.on h1; clear K c0 c1 c2 h1; have K := K1; clear K1; obtain ⟨c0, c1, c2⟩ := three_row K.hp))
        | ((with_reducible refine Plan.store_lit 24 (.tmp 6) _ (w.heap.size + 2) ?_ K.hr ?_ ?_ ?_ ?_ ?_ ?_); rotate_left; (· rfl); (· rfl); (· exact po_info); (· rfl); (· simp [Value.oneCell']); simp only [Act.put]))
      exact bodyPost_ret (Plan.results_cell_tmp (p := 6) (q := 7) rfl _ _ _ _ _ _ _ rfl (setRow_heap _ _ _ _ _ _ K.hr) Try.underlying24 rfl po_info) rfl ⟨_, _, _, _, _, rfl, ⟨rfl, rfl, HEND.out _ K.hb _⟩, below_setRow K.hb (show w.heap.size ≤ w.heap.size + 2 by omega) _⟩
    · by_cases q1 : z = h
      · have t1 : (z == h) = true := by simpa using q1
        rw [hva] at HV
        rw [hd] at HD
        have r1 : putB V D ⟨L, h, k⟩ z = false := by simp [putB, q1]
        have r2 : putP V D ⟨L, h, k⟩ z = ⟨L, h, k⟩ := by unfold putP; rw [r1]; rfl
        rw [r1, r2]
        clear hl r1 r2 HCL HINS HS HIC hva q1 hd
        go_enter Try.func18, Try.ntmps18
        generalize hw0 : ((w.alloc (poRow a n c h k)).alloc (confRow cz cs cb cq cd ch)).alloc (poRow none 0 0 0 0) = w0 at *
        go_wp2_with (first
          | ((with_reducible refine Plan.load_lit 24 (.tmp 3) (w.heap.size) ?_ K.hp Try.underlying24 ?_ ?_ ?_); (· rfl); (· rfl); (· exact po_info); simp only [Act.put, List.setIfInBounds_toArray, List.set_cons_zero, List.set_cons_succ])
          | ((with_reducible refine Plan.load_lit 26 (.tmp 4) (w.heap.size + 1) ?_ K.hc Try.underlying26 ?_ ?_ ?_); (· rfl); (· rfl); (· exact conf_info); simp only [Act.put, List.setIfInBounds_toArray, List.set_cons_zero, List.set_cons_succ])
          | (go_at_call 22; ((with_reducible refine (HV.out _ K.hb).mono ?_); rintro r9 w1 ⟨rfl, h1⟩; have K1 := K.on h1; clear K hw0 HV h1; have K := K1; clear K1; obtain ⟨c0, c1, c2⟩ := three_row K.hp))
          | ((with_reducible refine load_lit_gc 26 (.tmp 4) (w.heap.size + 1) ?_ ?_ K.hc Try.underlying26 ?_ ?_ ?_); (· rfl); (· rfl); (· rfl); (· exact conf_info); simp only [Act.put, List.setIfInBounds_toArray, List.set_cons_zero, List.set_cons_succ])
          | (go_at_call 30; ((with_reducible refine (HD.out _).mono ?_); rintro r9 w2 ⟨rfl, h1⟩; have K1 := K.on h1; clear K c0 c1 c2 h1; have K := K1; clear K1; obtain ⟨c0, c1, c2⟩ := three_row K.hp))
          | (go_at_call 31; ((with_reducible refine (HS.out _ K.hb).mono ?_); rintro r9 w3 ⟨rfl, h1⟩; have K1 := K.on h1; clear K c0 c1 c2 h1; have K := K1; clear K1; obtain ⟨c0, c1, c2⟩ := three_row K.hp))
          | ((with_reducible refine Plan.store_lit 24 (.tmp 6) _ (w.heap.size + 2) ?_ K.hr ?_ ?_ ?_ ?_ ?_ ?_); rotate_left; (· rfl); (· rfl); (· exact po_info); (· rfl); (· simp [Value.oneCell']); simp only [Act.put]))
        exact bodyPost_ret (Plan.results_cell_tmp (p := 6) (q := 7) rfl _ _ _ _ _ _ _ rfl (setRow_heap _ _ _ _ _ _ K.hr) Try.underlying24 rfl po_info) rfl ⟨_, _, _, _, _, rfl, ⟨rfl, rfl, HEND.out _ K.hb _⟩, below_setRow K.hb (show w.heap.size ≤ w.heap.size + 2 by omega) _⟩
      · have t1 : (z == h) = false := by simpa using q1
        by_cases q2 : z = k
        · have t2 : (z == k) = true := by simpa using q2
          rw [hva] at HV
          rw [hd] at HD
          have r1 : putB V D ⟨L, h, k⟩ z = false := by simp [putB, q2]
          have r2 : putP V D ⟨L, h, k⟩ z = ⟨L, h, k⟩ := by unfold putP; rw [r1]; rfl
          rw [r1, r2]
          clear hl r1 r2 HCL HINS HS HIC hva q1 q2 hd
          go_enter Try.func18, Try.ntmps18
          generalize hw0 : ((w.alloc (poRow a n c h k)).alloc (confRow cz cs cb cq cd ch)).alloc (poRow none 0 0 0 0) = w0 at *
          go_wp2_with (first
            | ((with_reducible refine Plan.load_lit 24 (.tmp 3) (w.heap.size) ?_ K.hp Try.underlying24 ?_ ?_ ?_); (· rfl); (· rfl); (· exact po_info); simp only [Act.put, List.setIfInBounds_toArray, List.set_cons_zero, List.set_cons_succ])
            | ((with_reducible refine Plan.load_lit 26 (.tmp 4) (w.heap.size + 1) ?_ K.hc Try.underlying26 ?_ ?_ ?_); (· rfl); (· rfl); (· exact conf_info); simp only [Act.put, List.setIfInBounds_toArray, List.set_cons_zero, List.set_cons_succ])
            | (go_at_call 22; ((with_reducible refine (HV.out _ K.hb).mono ?_); rintro r9 w1 ⟨rfl, h1⟩; have K1 := K.on h1; clear K hw0 HV h1; have K := K1; clear K1; obtain ⟨c0, c1, c2⟩ := three_row K.hp))
            | ((with_reducible refine load_lit_gc 26 (.tmp 4) (w.heap.size + 1) ?_ ?_ K.hc Try.underlying26 ?_ ?_ ?_); (· rfl); (· rfl); (· rfl); (· exact conf_info); simp only [Act.put, List.setIfInBounds_toArray, List.set_cons_zero, List.set_cons_succ])
            | (go_at_call 30; ((with_reducible refine (HD.out _).mono ?_); rintro r9 w2 ⟨rfl, h1⟩; have K1 := K.on h1; clear K c0 c1 c2 h1; have K := K1; clear K1; obtain ⟨c0, c1, c2⟩ := three_row K.hp))
            | (go_at_call 31; ((with_reducible refine (HS.out _ K.hb).mono ?_); rintro r9 w3 ⟨rfl, h1⟩; have K1 := K.on h1; clear K c0 c1 c2 h1; have K := K1; clear K1; obtain ⟨c0, c1, c2⟩ := three_row K.hp))
            | ((with_reducible refine Plan.store_lit 24 (.tmp 6) _ (w.heap.size + 2) ?_ K.hr ?_ ?_ ?_ ?_ ?_ ?_); rotate_left; (· rfl); (· rfl); (· exact po_info); (· rfl); (· simp [Value.oneCell']); simp only [Act.put]))
          exact bodyPost_ret (Plan.results_cell_tmp (p := 6) (q := 7) rfl _ _ _ _ _ _ _ rfl (setRow_heap _ _ _ _ _ _ K.hr) Try.underlying24 rfl po_info) rfl ⟨_, _, _, _, _, rfl, ⟨rfl, rfl, HEND.out _ K.hb _⟩, below_setRow K.hb (show w.heap.size ≤ w.heap.size + 2 by omega) _⟩
        · have t2 : (z == k) = false := by simpa using q2
          cases hh : hasL L z
          · have r1 : putB V D ⟨L, h, k⟩ z = true := by simp only [putB]; rw [hva, hd, hh, decide_eq_false q1, decide_eq_false q2]; rfl
            have r2 : putP V D ⟨L, h, k⟩ z = ⟨insL L z, h, k⟩ := by unfold putP; rw [r1, if_pos rfl]
            rw [r1, r2]
            rw [hva] at HV
            rw [hd] at HD
            rw [hh] at HS
            clear hl r1 r2 q1 q2 hva hd hh HEND
            go_enter Try.func18, Try.ntmps18
            generalize hw0 : ((w.alloc (poRow a n c h k)).alloc (confRow cz cs cb cq cd ch)).alloc (poRow none 0 0 0 0) = w0 at *
            go_wp2_with (first
              | ((with_reducible refine Plan.load_lit 24 (.tmp 3) (w.heap.size) ?_ K.hp Try.underlying24 ?_ ?_ ?_); (· rfl); (· rfl); (· exact po_info); simp only [Act.put, List.setIfInBounds_toArray, List.set_cons_zero, List.set_cons_succ])
              | ((with_reducible refine Plan.load_lit 26 (.tmp 4) (w.heap.size + 1) ?_ K.hc Try.underlying26 ?_ ?_ ?_); (· rfl); (· rfl); (· exact conf_info); simp only [Act.put, List.setIfInBounds_toArray, List.set_cons_zero, List.set_cons_succ])
              | (go_at_call 22; ((with_reducible refine (HV.out _ K.hb).mono ?_); rintro r9 w1 ⟨rfl, h1⟩; have K1 := K.on h1; clear K hw0 HV h1; have K := K1; clear K1; obtain ⟨c0, c1, c2⟩ := three_row K.hp))
              | ((with_reducible refine load_lit_gc 26 (.tmp 4) (w.heap.size + 1) ?_ ?_ K.hc Try.underlying26 ?_ ?_ ?_); (· rfl); (· rfl); (· rfl); (· exact conf_info); simp only [Act.put, List.setIfInBounds_toArray, List.set_cons_zero, List.set_cons_succ])
              | (go_at_call 30; ((with_reducible refine (HD.out _).mono ?_); rintro r9 w2 ⟨rfl, h1⟩; have K1 := K.on h1; clear K c0 c1 c2 h1; have K := K1; clear K1; obtain ⟨c0, c1, c2⟩ := three_row K.hp))
              | (go_at_call 31; ((with_reducible refine (HS.out _ K.hb).mono ?_); rintro r9 w3 ⟨rfl, h1⟩; have K1 := K.on h1; clear K c0 c1 c2 h1; have K := K1; clear K1; obtain ⟨c0, c1, c2⟩ := three_row K.hp))
              | ((with_reducible refine Plan.store_lit 24 (.tmp 10) _ (w3.heap.size) ?_ (heap_alloc_new w3 (poRow none 0 0 0 0)) ?_ ?_ ?_ ?_ ?_ ?_); rotate_left; (· rfl); (· rfl); (· exact po_info); (· rfl); (· simp [Value.oneCell']); simp only [Act.put]; have K1 := (PX.of K (poRow none 0 0 0 0)).put (cs' := #[.slice a n c, .int .i64 h, .int .i64 k]) (XX' := poRow a n c h k) rfl; generalize hw4 : (w3.alloc (poRow none 0 0 0 0)).setRow w3.heap.size #[.slice a n c, .int .i64 h, .int .i64 k] = w4 at *; generalize w3.heap.size = X at *; clear K hw4 c0 c1 c2; have K := K1; clear K1; obtain ⟨c0, c1, c2⟩ := three_row K.hp)
              | (go_at_call 33; ((with_reducible refine (HCL.out _ K.hb).mono ?_); rintro r9 w5 ⟨v5, rfl, own5, h5⟩; clear c0 c1 c2; have hs5 := h5.size; have h5a := h5.alloc hs5 (.cells #[.int .i64 z] 3 (0, 0)); have own6 := e_owns_on own5 ((Below.refl _ _).alloc (Nat.le_refl _) (.cells #[.int .i64 z] 3 (0, 0))); have hn5 := fun b hb => (own5.lt b hb).2; have HI5 := Lib.hid (HINS.out w4.heap.size v5 _ own6 (by rw [World.size_alloc]; omega) w5.heap.size (heap_alloc_new w5 (.cells #[.int .i64 z] 3 (0, 0))) (fun b hb => by have := hn5 b hb; omega)); clear own5 own6 hn5 h5))
              | (go_at_call 32; ((with_reducible refine (HI5.out).mono ?_); rintro r9 w6 ⟨a9, c9, rfl, l9, h6⟩; have hlt9 := K.lt; have hX9 := K.hX; have K1 := K.on (h5a.trans h6); clear K h5a h6 HI5; have K := K1; clear K1))
              | ((with_reducible refine store_slice_c 22 (.tmp 51) (.tmp 50) X 0 a9 (n + 1) c9 ?_ ?_ ⟨_, (three_row K.hx).1⟩ (free_row_c K.hx) ints_info1 ?_); (· rfl); (· rfl); simp only [Act.put]; rw [setCell_eq_setRow _ _ _ _ _ _ _ K.hx]; simp only [List.setIfInBounds_toArray, List.set_cons_zero]; have l7 := l9.on (Same.row (r := X) (fun h => by have h8 : w4.heap.size ≤ X := h; omega) #[.slice a9 (n + 1) c9, .int .i64 h, .int .i64 k]); have K1 := K.put (XX' := poRow a9 (n + 1) c9 h k) rfl; clear K l9; have K := K1; clear K1)
              | ((with_reducible refine Plan.load_lit 24 (.tmp 10) (X) ?_ K.hx Try.underlying24 ?_ ?_ ?_); (· rfl); (· rfl); (· exact po_info); simp only [Act.put, List.setIfInBounds_toArray, List.set_cons_zero, List.set_cons_succ])
              | ((with_reducible refine Plan.store_lit 24 (.tmp 6) _ (w.heap.size + 2) ?_ K.hr ?_ ?_ ?_ ?_ ?_ ?_); rotate_left; (· rfl); (· rfl); (· exact po_info); (· rfl); (· simp [Value.oneCell']); simp only [Act.put]))
            exact bodyPost_ret (Plan.results_cell_tmp (p := 6) (q := 7) rfl _ _ _ _ _ _ _ rfl (setRow_heap _ _ _ _ _ _ K.hr) Try.underlying24 rfl po_info) rfl ⟨_, _, _, _, _, rfl, ⟨rfl, rfl, by rw [HIC.out]; exact (l7.on (Same.row (r := w.heap.size + 2) (fun h => by have h8 : w4.heap.size ≤ w.heap.size + 2 := h; omega) _)).mono (fun b _ h => .inr (by have h8 : w4.heap.size ≤ b := h; omega))⟩, below_setRow K.hb (show w.heap.size ≤ w.heap.size + 2 by omega) _⟩
          · rw [hva] at HV
            rw [hd] at HD
            rw [hh] at HS
            have r1 : putB V D ⟨L, h, k⟩ z = false := by simp [putB, hh]
            have r2 : putP V D ⟨L, h, k⟩ z = ⟨L, h, k⟩ := by unfold putP; rw [r1]; rfl
            rw [r1, r2]
            clear hl r1 r2 HCL HINS HIC hva q1 q2 hd hh
            go_enter Try.func18, Try.ntmps18
            generalize hw0 : ((w.alloc (poRow a n c h k)).alloc (confRow cz cs cb cq cd ch)).alloc (poRow none 0 0 0 0) = w0 at *
            go_wp2_with (first
              | ((with_reducible refine Plan.load_lit 24 (.tmp 3) (w.heap.size) ?_ K.hp Try.underlying24 ?_ ?_ ?_); (· rfl); (· rfl); (· exact po_info); simp only [Act.put, List.setIfInBounds_toArray, List.set_cons_zero, List.set_cons_succ])
              | ((with_reducible refine Plan.load_lit 26 (.tmp 4) (w.heap.size + 1) ?_ K.hc Try.underlying26 ?_ ?_ ?_); (· rfl); (· rfl); (· exact conf_info); simp only [Act.put, List.setIfInBounds_toArray, List.set_cons_zero, List.set_cons_succ])
              | (go_at_call 22; ((with_reducible refine (HV.out _ K.hb).mono ?_); rintro r9 w1 ⟨rfl, h1⟩; have K1 := K.on h1; clear K hw0 HV h1; have K := K1; clear K1; obtain ⟨c0, c1, c2⟩ := three_row K.hp))
              | ((with_reducible refine load_lit_gc 26 (.tmp 4) (w.heap.size + 1) ?_ ?_ K.hc Try.underlying26 ?_ ?_ ?_); (· rfl); (· rfl); (· rfl); (· exact conf_info); simp only [Act.put, List.setIfInBounds_toArray, List.set_cons_zero, List.set_cons_succ])
              | (go_at_call 30; ((with_reducible refine (HD.out _).mono ?_); rintro r9 w2 ⟨rfl, h1⟩; have K1 := K.on h1; clear K c0 c1 c2 h1; have K := K1; clear K1; obtain ⟨c0, c1, c2⟩ := three_row K.hp))
              | (go_at_call 31; ((with_reducible refine (HS.out _ K.hb).mono ?_); rintro r9 w3 ⟨rfl, h1⟩; have K1 := K.on h1; clear K c0 c1 c2 h1; have K := K1; clear K1; obtain ⟨c0, c1, c2⟩ := three_row K.hp))
              | ((with_reducible refine Plan.store_lit 24 (.tmp 6) _ (w.heap.size + 2) ?_ K.hr ?_ ?_ ?_ ?_ ?_ ?_); rotate_left; (· rfl); (· rfl); (· exact po_info); (· rfl); (· simp [Value.oneCell']); simp only [Act.put]))
            exact bodyPost_ret (Plan.results_cell_tmp (p := 6) (q := 7) rfl _ _ _ _ _ _ _ rfl (setRow_heap _ _ _ _ _ _ K.hr) Try.underlying24 rfl po_info) rfl ⟨_, _, _, _, _, rfl, ⟨rfl, rfl, HEND.out _ K.hb _⟩, below_setRow K.hb (show w.heap.size ≤ w.heap.size + 2 by omega) _⟩
theorem poolOk : PoolOk where
  valid := fun F P cz cs cb cq cd ch a n c h k w _ hl _ => poValid_any F P cz cs cb cq cd ch a n c h k w hl
  put := fun F P cz cs cb cq cd ch s a n c h k w _ hl hn => poPut_any F P cz cs cb cq cd ch s a n c h k w hl hn
  host := fun F P cz cs cb cq cd ch a n c h k w _ hl hn => poHost_any F P cz cs cb cq cd ch a n c h k w hl hn
  clean := fun F P cz cs cb cq cd ch a n c h k w _ hl hn => poClean_any F P cz cs cb cq cd ch a n c h k w hl hn
  leave := fun F P cz cs cb cq cd ch s a n c h k w _ hl hn => poLeave_any F P cz cs cb cq cd ch s a n c h k w hl hn
end Go.Proofs.Ytjdlekjikemdpaa.Ents
