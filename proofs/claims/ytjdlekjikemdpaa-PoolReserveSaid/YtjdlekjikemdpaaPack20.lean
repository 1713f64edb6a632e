/- Texts that belong together, part 20. -/
import Derived.Test.YtjdlekjikemdpaaPack19

/- The walk of the document's Leave of pools. -/
namespace Go.Proofs.Ytjdlekjikemdpaa.Ents
open Go.RowKit Plan EntMath CntMath PoolMath LayMath
/-- where a walk with boxes of a pool and a configuration and a result stands -/
structure PW (w W : World) (XP XC : Obj) : Prop where
  hp : W.heap[w.heap.size]? = some XP
  hc : W.heap[w.heap.size + 1]? = some XC
  hr : W.heap[w.heap.size + 2]? = some (poRow none 0 0 0 0)
  hb : Below w.heap.size w W
theorem PW.start (w : World) (XP XC : Obj) : PW w (((w.alloc XP).alloc XC).alloc (poRow none 0 0 0 0)) XP XC :=
  have hb := ((Below.refl w.heap.size w).alloc (Nat.le_refl _) XP).alloc (by simp) XC
  have h3 := heap_alloc_new ((w.alloc XP).alloc XC) (poRow none 0 0 0 0)
  have hs : ((w.alloc XP).alloc XC).heap.size = w.heap.size + 2 := by simp
  have hq : Below ((w.alloc XP).alloc XC).heap.size ((w.alloc XP).alloc XC) (((w.alloc XP).alloc XC).alloc (poRow none 0 0 0 0)) := (Below.refl _ _).alloc (Nat.le_refl _) _
  ⟨e_on hq (heap_first w XP XC) (by omega), e_on hq (heap_second w XP XC) (by omega), by rw [hs] at h3; exact h3, hb.alloc hb.size _⟩
theorem PW.on {w W W' : World} {XP XC : Obj} (K : PW w W XP XC) (h : Below W.heap.size W W') : PW w W' XP XC := ⟨e_on h K.hp (e_lt K.hp), e_on h K.hc (e_lt K.hc), e_on h K.hr (e_lt K.hr), K.hb.trans (h.mono K.hb.size)⟩
theorem PW.al {w W : World} {XP XC : Obj} (K : PW w W XP XC) (p : Obj) : PW w (W.alloc p) XP XC := K.on ((Below.refl _ _).alloc (Nat.le_refl _) p)
theorem PW.drew {w W : World} {XP XC : Obj} (K : PW w W XP XC) : PW w W.drew XP XC := K.on (Below.refl _ _).drew
theorem PW.lt {w W : World} {XP XC : Obj} (K : PW w W XP XC) : w.heap.size + 2 < W.heap.size := e_lt K.hr
theorem PW.grown {w W W' : World} {XP XC : Obj} {o : Option Nat} (K : PW w W XP XC) (h : W.grownBy W' o) (ho : ∀ z, o = some z → w.heap.size + 2 < z) : PW w W' XP XC :=
  ⟨(h.block _ (e_lt K.hp) (fun e => by have := ho _ e.symm; omega)).trans K.hp, (h.block _ (e_lt K.hc) (fun e => by have := ho _ e.symm; omega)).trans K.hc, (h.block _ (e_lt K.hr) (fun e => by have := ho _ e.symm; omega)).trans K.hr, K.hb.grown h K.hb.size (fun z hz => by have := ho z hz; omega)⟩
theorem PW.put {w W : World} {XP XC : Obj} {cs cs' : Array Value} (K : PW w W (.cells cs 24 (0, 0)) XC) (hXP : XP = .cells cs' 24 (0, 0)) : PW w (W.setRow w.heap.size cs') XP XC := by
  subst hXP
  exact ⟨setRow_heap _ _ _ _ _ _ K.hp, (setRow_other _ _ _ _ (by omega)).trans K.hc, (setRow_other _ _ _ _ (by omega)).trans K.hr, below_setRow K.hb (Nat.le_refl _) _⟩
set_option maxHeartbeats 8000000 in
set_option maxRecDepth 20000 in
theorem refLeave_any (F : Nat → Prop) (P : Po) (cz cs cb cq cd ch : Int) (B : Bool) (a : Option Addr) (n c : Nat) (h k : Int) (w : World) (hl : FList w F a n c h k P) :
    Calls Try.prog 15 #[poV a n c h k, confV cz cs cb cq cd ch, .bool B] w
      (PoPost w F (leaveP (decide (errN cz cs cb cq cd ch = 0)) (isN cz cs cb cq cd ch) P B) (leaveB (decide (errN cz cs cb cq cd ch = 0)) (isN cz cs cb cq cd ch) P B)) := by
  have K := PW.start w (poRow a n c h k) (confRow cz cs cb cq cd ch)
  have HV := Lib.hid (fun W (q : Below w.heap.size w W) => refPValid_any _ P cz cs cb cq cd ch a n c h k W (hl.same q))
  unfold confV at *
  generalize decide (errN cz cs cb cq cd ch = 0) = V at *
  generalize isN cz cs cb cq cd ch = D at *
  obtain ⟨L, h0, k0⟩ := P
  obtain ⟨e1, e2, hl⟩ := hl
  simp only at e1 e2 hl
  subst e1 e2
  generalize h0 = h at *
  generalize k0 = k at *
  have HEND := Lib.hid (fun W (q : Below w.heap.size w W) (cs : Array Value) => (show IList (W.setRow (w.heap.size + 2) cs) (Plus F w.heap.size) a n c L from
    ((hl.cut.on (Same.below (w' := W) q)).on (Same.row (r := w.heap.size + 2) (fun h9 => by have := h9.2; omega) cs)).mono (fun b _ h => .inl h.1)))
  cases hva : validP V D ⟨L, h, k⟩
  · have r1 : leaveB V D ⟨L, h, k⟩ B = false := by simp [leaveB, hva]
    have r2 : leaveP V D ⟨L, h, k⟩ B = ⟨L, h, k⟩ := by unfold leaveP; rw [r1]; rfl
    rw [hva] at HV
    rw [r1, r2]
    clear hl
    go_enter Try.func15, Try.ntmps15
    generalize hw0 : ((w.alloc (poRow a n c h k)).alloc (confRow cz cs cb cq cd ch)).alloc (poRow none 0 0 0 0) = w0 at *
    go_wp2_with (first
      | ((with_reducible refine Plan.load_lit 24 (.tmp 3) w.heap.size ?_ K.hp Try.underlying24 ?_ ?_ ?_); (· rfl); (· rfl); (· exact po_info); simp only [Act.put, List.setIfInBounds_toArray, List.set_cons_zero, List.set_cons_succ])
      | ((with_reducible refine Plan.load_lit 26 (.tmp 4) (w.heap.size + 1) ?_ K.hc Try.underlying26 ?_ ?_ ?_); (· rfl); (· rfl); (· exact conf_info); simp only [Act.put, List.setIfInBounds_toArray, List.set_cons_zero, List.set_cons_succ])
      | (go_at_call 24; ((with_reducible refine (HV.out _ K.hb).mono ?_); rintro r9 w1 ⟨rfl, h1⟩; have K1 := K.on h1; clear K hw0 HV h1; have K := K1; clear K1; obtain ⟨c0, c1, c2⟩ := three_row K.hp))
      | ((with_reducible refine Plan.store_lit 24 (.tmp 6) _ (w.heap.size + 2) ?_ K.hr ?_ ?_ ?_ ?_ ?_ ?_); rotate_left; (· rfl); (· rfl); (· exact po_info); (· rfl); (· simp [Value.oneCell']); simp only [Act.put]))
    exact bodyPost_ret (Plan.results_cell_tmp (p := 6) (q := 7) rfl _ _ _ _ _ _ _ rfl (setRow_heap _ _ _ _ _ _ K.hr) Try.underlying24 rfl po_info) rfl ⟨_, _, _, _, _, rfl, ⟨rfl, rfl, HEND.out _ K.hb _⟩, below_setRow K.hb (show w.heap.size ≤ w.heap.size + 2 by omega) _⟩
  · rw [hva] at HV
    cases B
    · by_cases q1 : k = -1
      · have t1 : (k == (-1 : Int)) = true := by simpa using q1
        have t9 : (k != (-1 : Int)) = false := by simpa using q1
        have r1 : leaveB V D ⟨L, h, k⟩ false = false := by simp [leaveB, q1]
        have r2 : leaveP V D ⟨L, h, k⟩ false = ⟨L, h, k⟩ := by unfold leaveP; rw [r1]; rfl
        clear q1
        rw [r1, r2]
        clear hl
        go_enter Try.func15, Try.ntmps15
        generalize hw0 : ((w.alloc (poRow a n c h k)).alloc (confRow cz cs cb cq cd ch)).alloc (poRow none 0 0 0 0) = w0 at *
        go_wp2_with (first
          | ((with_reducible refine Plan.load_lit 24 (.tmp 3) w.heap.size ?_ K.hp Try.underlying24 ?_ ?_ ?_); (· rfl); (· rfl); (· exact po_info); simp only [Act.put, List.setIfInBounds_toArray, List.set_cons_zero, List.set_cons_succ])
          | ((with_reducible refine Plan.load_lit 26 (.tmp 4) (w.heap.size + 1) ?_ K.hc Try.underlying26 ?_ ?_ ?_); (· rfl); (· rfl); (· exact conf_info); simp only [Act.put, List.setIfInBounds_toArray, List.set_cons_zero, List.set_cons_succ])
          | (go_at_call 24; ((with_reducible refine (HV.out _ K.hb).mono ?_); rintro r9 w1 ⟨rfl, h1⟩; have K1 := K.on h1; clear K hw0 HV h1; have K := K1; clear K1; obtain ⟨c0, c1, c2⟩ := three_row K.hp))
          | ((with_reducible refine Plan.store_lit 24 (.tmp 6) _ (w.heap.size + 2) ?_ K.hr ?_ ?_ ?_ ?_ ?_ ?_); rotate_left; (· rfl); (· rfl); (· exact po_info); (· rfl); (· simp [Value.oneCell']); simp only [Act.put]))
        exact bodyPost_ret (Plan.results_cell_tmp (p := 6) (q := 7) rfl _ _ _ _ _ _ _ rfl (setRow_heap _ _ _ _ _ _ K.hr) Try.underlying24 rfl po_info) rfl ⟨_, _, _, _, _, rfl, ⟨rfl, rfl, HEND.out _ K.hb _⟩, below_setRow K.hb (show w.heap.size ≤ w.heap.size + 2 by omega) _⟩
      · have t1 : (k == (-1 : Int)) = false := by simpa using q1
        have t9 : (k != (-1 : Int)) = true := by simpa using q1
        have r1 : leaveB V D ⟨L, h, k⟩ false = true := by simp [leaveB, hva, q1]
        have r2 : leaveP V D ⟨L, h, k⟩ false = ⟨L, h, -1⟩ := by unfold leaveP; rw [r1]; rfl
        rw [r1, r2]
        clear hl
        go_enter Try.func15, Try.ntmps15
        generalize hw0 : ((w.alloc (poRow a n c h k)).alloc (confRow cz cs cb cq cd ch)).alloc (poRow none 0 0 0 0) = w0 at *
        clear q1
        go_wp2_with (first
          | ((with_reducible refine Plan.load_lit 24 (.tmp 3) w.heap.size ?_ K.hp Try.underlying24 ?_ ?_ ?_); (· rfl); (· rfl); (· exact po_info); simp only [Act.put, List.setIfInBounds_toArray, List.set_cons_zero, List.set_cons_succ])
          | ((with_reducible refine Plan.load_lit 26 (.tmp 4) (w.heap.size + 1) ?_ K.hc Try.underlying26 ?_ ?_ ?_); (· rfl); (· rfl); (· exact conf_info); simp only [Act.put, List.setIfInBounds_toArray, List.set_cons_zero, List.set_cons_succ])
          | (go_at_call 24; ((with_reducible refine (HV.out _ K.hb).mono ?_); rintro r9 w1 ⟨rfl, h1⟩; have K1 := K.on h1; clear K hw0 HV h1; have K := K1; clear K1; obtain ⟨c0, c1, c2⟩ := three_row K.hp))
          | ((with_reducible refine Plan.store_lit 24 (.tmp 6) _ (w.heap.size + 2) ?_ K.hr ?_ ?_ ?_ ?_ ?_ ?_); rotate_left; (· rfl); (· rfl); (· exact po_info); (· rfl); (· simp [Value.oneCell']); simp only [Act.put])
          | ((with_reducible refine store_int_c 3 (.tmp 32) (.const (.int .i64 (-1))) w.heap.size 2 .i64 (-1) ?_ ?_ ⟨_, (three_row K.hp).2.2⟩ (free_row_c K.hp) Put.int_info1 ?_); (· rfl); (· rfl); simp only [Act.put]; rw [setCell_eq_setRow _ _ _ _ _ _ _ K.hp]; simp only [List.setIfInBounds_toArray, List.set_cons_zero, List.set_cons_succ]; have K1 := K.put (XP := poRow a n c h (-1)) rfl; clear K c0 c1 c2; have K := K1; clear K1))
        exact bodyPost_ret (Plan.results_cell_tmp (p := 6) (q := 7) rfl _ _ _ _ _ _ _ rfl (setRow_heap _ _ _ _ _ _ K.hr) Try.underlying24 rfl po_info) rfl ⟨_, _, _, _, _, rfl, ⟨rfl, rfl, HEND.out _ K.hb _⟩, below_setRow K.hb (show w.heap.size ≤ w.heap.size + 2 by omega) _⟩
    · by_cases q1 : h = -1
      · have t1 : (h == (-1 : Int)) = true := by simpa using q1
        have t9 : (h != (-1 : Int)) = false := by simpa using q1
        have r1 : leaveB V D ⟨L, h, k⟩ true = false := by simp [leaveB, q1]
        have r2 : leaveP V D ⟨L, h, k⟩ true = ⟨L, h, k⟩ := by unfold leaveP; rw [r1]; rfl
        clear q1
        rw [r1, r2]
        clear hl
        go_enter Try.func15, Try.ntmps15
        generalize hw0 : ((w.alloc (poRow a n c h k)).alloc (confRow cz cs cb cq cd ch)).alloc (poRow none 0 0 0 0) = w0 at *
        go_wp2_with (first
          | ((with_reducible refine Plan.load_lit 24 (.tmp 3) w.heap.size ?_ K.hp Try.underlying24 ?_ ?_ ?_); (· rfl); (· rfl); (· exact po_info); simp only [Act.put, List.setIfInBounds_toArray, List.set_cons_zero, List.set_cons_succ])
          | ((with_reducible refine Plan.load_lit 26 (.tmp 4) (w.heap.size + 1) ?_ K.hc Try.underlying26 ?_ ?_ ?_); (· rfl); (· rfl); (· exact conf_info); simp only [Act.put, List.setIfInBounds_toArray, List.set_cons_zero, List.set_cons_succ])
          | (go_at_call 24; ((with_reducible refine (HV.out _ K.hb).mono ?_); rintro r9 w1 ⟨rfl, h1⟩; have K1 := K.on h1; clear K hw0 HV h1; have K := K1; clear K1; obtain ⟨c0, c1, c2⟩ := three_row K.hp))
          | ((with_reducible refine Plan.store_lit 24 (.tmp 6) _ (w.heap.size + 2) ?_ K.hr ?_ ?_ ?_ ?_ ?_ ?_); rotate_left; (· rfl); (· rfl); (· exact po_info); (· rfl); (· simp [Value.oneCell']); simp only [Act.put]))
        exact bodyPost_ret (Plan.results_cell_tmp (p := 6) (q := 7) rfl _ _ _ _ _ _ _ rfl (setRow_heap _ _ _ _ _ _ K.hr) Try.underlying24 rfl po_info) rfl ⟨_, _, _, _, _, rfl, ⟨rfl, rfl, HEND.out _ K.hb _⟩, below_setRow K.hb (show w.heap.size ≤ w.heap.size + 2 by omega) _⟩
      · have t1 : (h == (-1 : Int)) = false := by simpa using q1
        have t9 : (h != (-1 : Int)) = true := by simpa using q1
        have r1 : leaveB V D ⟨L, h, k⟩ true = true := by simp [leaveB, hva, q1]
        have r2 : leaveP V D ⟨L, h, k⟩ true = ⟨L, -1, k⟩ := by unfold leaveP; rw [r1]; rfl
        rw [r1, r2]
        clear hl
        go_enter Try.func15, Try.ntmps15
        generalize hw0 : ((w.alloc (poRow a n c h k)).alloc (confRow cz cs cb cq cd ch)).alloc (poRow none 0 0 0 0) = w0 at *
        clear q1
        go_wp2_with (first
          | ((with_reducible refine Plan.load_lit 24 (.tmp 3) w.heap.size ?_ K.hp Try.underlying24 ?_ ?_ ?_); (· rfl); (· rfl); (· exact po_info); simp only [Act.put, List.setIfInBounds_toArray, List.set_cons_zero, List.set_cons_succ])
          | ((with_reducible refine Plan.load_lit 26 (.tmp 4) (w.heap.size + 1) ?_ K.hc Try.underlying26 ?_ ?_ ?_); (· rfl); (· rfl); (· exact conf_info); simp only [Act.put, List.setIfInBounds_toArray, List.set_cons_zero, List.set_cons_succ])
          | (go_at_call 24; ((with_reducible refine (HV.out _ K.hb).mono ?_); rintro r9 w1 ⟨rfl, h1⟩; have K1 := K.on h1; clear K hw0 HV h1; have K := K1; clear K1; obtain ⟨c0, c1, c2⟩ := three_row K.hp))
          | ((with_reducible refine Plan.store_lit 24 (.tmp 6) _ (w.heap.size + 2) ?_ K.hr ?_ ?_ ?_ ?_ ?_ ?_); rotate_left; (· rfl); (· rfl); (· exact po_info); (· rfl); (· simp [Value.oneCell']); simp only [Act.put])
          | ((with_reducible refine store_int_c 3 (.tmp 31) (.const (.int .i64 (-1))) w.heap.size 1 .i64 (-1) ?_ ?_ ⟨_, (three_row K.hp).2.1⟩ (free_row_c K.hp) Put.int_info1 ?_); (· rfl); (· rfl); simp only [Act.put]; rw [setCell_eq_setRow _ _ _ _ _ _ _ K.hp]; simp only [List.setIfInBounds_toArray, List.set_cons_zero, List.set_cons_succ]; have K1 := K.put (XP := poRow a n c (-1) k) rfl; clear K c0 c1 c2; have K := K1; clear K1))
        exact bodyPost_ret (Plan.results_cell_tmp (p := 6) (q := 7) rfl _ _ _ _ _ _ _ rfl (setRow_heap _ _ _ _ _ _ K.hr) Try.underlying24 rfl po_info) rfl ⟨_, _, _, _, _, rfl, ⟨rfl, rfl, HEND.out _ K.hb _⟩, below_setRow K.hb (show w.heap.size ≤ w.heap.size + 2 by omega) _⟩
end Go.Proofs.Ytjdlekjikemdpaa.Ents

/- The walks of the document's Host and Cleaner of pools. -/
namespace Go.Proofs.Ytjdlekjikemdpaa.Ents
open Go.RowKit Plan EntMath CntMath PoolMath LayMath
set_option maxHeartbeats 8000000 in
set_option maxRecDepth 20000 in
theorem refHost_any (F : Nat → Prop) (P : Po) (cz cs cb cq cd ch : Int) (a : Option Addr) (n c : Nat) (h k : Int) (w : World) (hl : FList w F a n c h k P) (hn : n ≤ 900000) :
    Calls Try.prog 13 #[poV a n c h k, confV cz cs cb cq cd ch] w
      (PoPost w F (hostP (decide (errN cz cs cb cq cd ch = 0)) (isN cz cs cb cq cd ch) P) (hostB (decide (errN cz cs cb cq cd ch = 0)) (isN cz cs cb cq cd ch) P)) := by
  have K := PW.start w (poRow a n c h k) (confRow cz cs cb cq cd ch)
  have HV := Lib.hid (fun W (q : Below w.heap.size w W) => refPValid_any _ P cz cs cb cq cd ch a n c h k W (hl.same q))
  unfold confV at *
  generalize decide (errN cz cs cb cq cd ch = 0) = V at *
  generalize isN cz cs cb cq cd ch = D at *
  obtain ⟨L, h0, k0⟩ := P
  obtain ⟨e1, e2, hl⟩ := hl
  simp only at e1 e2 hl
  subst e1 e2
  generalize h0 = h at *
  generalize k0 = k at *
  have hlen := hl.length
  have HEND := Lib.hid (fun W (q : Below w.heap.size w W) (cs : Array Value) => (show IList (W.setRow (w.heap.size + 2) cs) (Plus F w.heap.size) a n c L from
    ((hl.cut.on (Same.below (w' := W) q)).on (Same.row (r := w.heap.size + 2) (fun h9 => by have := h9.2; omega) cs)).mono (fun b _ h => .inl h.1)))
  cases hva : validP V D ⟨L, h, k⟩
  · have r1 : hostB V D ⟨L, h, k⟩ = false := by simp [hostB, hva]
    have r2 : hostP V D ⟨L, h, k⟩ = ⟨L, h, k⟩ := by unfold hostP; rw [r1]; rfl
    rw [hva] at HV
    rw [r1, r2]
    clear hva
    clear hl
    go_enter Try.func13, Try.ntmps13
    generalize hw0 : ((w.alloc (poRow a n c h k)).alloc (confRow cz cs cb cq cd ch)).alloc (poRow none 0 0 0 0) = w0 at *
    go_wp2_with (first
      | ((with_reducible refine Plan.load_lit 24 (.tmp 2) (w.heap.size) ?_ K.hp Try.underlying24 ?_ ?_ ?_); (· rfl); (· rfl); (· exact po_info); simp only [Act.put, List.setIfInBounds_toArray, List.set_cons_zero, List.set_cons_succ])
      | ((with_reducible refine Plan.load_lit 26 (.tmp 3) (w.heap.size + 1) ?_ K.hc Try.underlying26 ?_ ?_ ?_); (· rfl); (· rfl); (· exact conf_info); simp only [Act.put, List.setIfInBounds_toArray, List.set_cons_zero, List.set_cons_succ])
      | (go_at_call 24; ((with_reducible refine (HV.out _ K.hb).mono ?_); rintro r9 w1 ⟨rfl, h1⟩; have K1 := K.on h1; clear K hw0 HV h1; have K := K1; clear K1; obtain ⟨c0, c1, c2⟩ := three_row K.hp))
      | ((with_reducible refine Plan.store_lit 24 (.tmp 4) _ (w.heap.size + 2) ?_ K.hr ?_ ?_ ?_ ?_ ?_ ?_); rotate_left; (· rfl); (· rfl); (· exact po_info); (· rfl); (· simp [Value.oneCell']); simp only [Act.put]))
    exact bodyPost_ret (Plan.results_cell_tmp (p := 4) (q := 5) rfl _ _ _ _ _ _ _ rfl (setRow_heap _ _ _ _ _ _ K.hr) Try.underlying24 rfl po_info) rfl ⟨_, _, _, _, _, rfl, ⟨rfl, rfl, HEND.out _ K.hb _⟩, below_setRow K.hb (show w.heap.size ≤ w.heap.size + 2 by omega) _⟩
  · rw [hva] at HV
    by_cases q1 : h = -1
    · have t9 : (h != (-1 : Int)) = false := by simpa using q1
      by_cases q2 : n ≤ 2
      · have r1 : hostB V D ⟨L, h, k⟩ = false := by simp [hostB, hlen]; omega
        have r2 : hostP V D ⟨L, h, k⟩ = ⟨L, h, k⟩ := by unfold hostP; rw [r1]; rfl
        have t8 : decide ((n : Int) ≤ 2) = true := by simp; omega
        have t7 : decide (n ≤ 2) = true := by simpa using q2
        rw [r1, r2]
        clear q1 q2 r1 r2
        clear hl
        go_enter Try.func13, Try.ntmps13
        generalize hw0 : ((w.alloc (poRow a n c h k)).alloc (confRow cz cs cb cq cd ch)).alloc (poRow none 0 0 0 0) = w0 at *
        go_wp2_with (first
          | ((with_reducible refine Plan.load_lit 24 (.tmp 2) (w.heap.size) ?_ K.hp Try.underlying24 ?_ ?_ ?_); (· rfl); (· rfl); (· exact po_info); simp only [Act.put, List.setIfInBounds_toArray, List.set_cons_zero, List.set_cons_succ])
          | ((with_reducible refine Plan.load_lit 26 (.tmp 3) (w.heap.size + 1) ?_ K.hc Try.underlying26 ?_ ?_ ?_); (· rfl); (· rfl); (· exact conf_info); simp only [Act.put, List.setIfInBounds_toArray, List.set_cons_zero, List.set_cons_succ])
          | (go_at_call 24; ((with_reducible refine (HV.out _ K.hb).mono ?_); rintro r9 w1 ⟨rfl, h1⟩; have K1 := K.on h1; clear K hw0 HV h1; have K := K1; clear K1; obtain ⟨c0, c1, c2⟩ := three_row K.hp))
          | ((with_reducible refine Plan.store_lit 24 (.tmp 4) _ (w.heap.size + 2) ?_ K.hr ?_ ?_ ?_ ?_ ?_ ?_); rotate_left; (· rfl); (· rfl); (· exact po_info); (· rfl); (· simp [Value.oneCell']); simp only [Act.put]))
        exact bodyPost_ret (Plan.results_cell_tmp (p := 4) (q := 5) rfl _ _ _ _ _ _ _ rfl (setRow_heap _ _ _ _ _ _ K.hr) Try.underlying24 rfl po_info) rfl ⟨_, _, _, _, _, rfl, ⟨rfl, rfl, HEND.out _ K.hb _⟩, below_setRow K.hb (show w.heap.size ≤ w.heap.size + 2 by omega) _⟩
      · have t8 : decide ((n : Int) ≤ 2) = false := by simp; omega
        have t7 : decide (n ≤ 2) = false := by simpa using q2
        obtain ⟨x, y0, rfl, hz, hc⟩ := hl.at' 0 (by omega)
        have r1 : hostB V D ⟨L, h, k⟩ = true := by simp only [hostB]; rw [hva, decide_eq_true q1, decide_eq_true (show 2 < L.length by omega)]; rfl
        have r2 : hostP V D ⟨L, h, k⟩ = ⟨L.drop 1, y0, k⟩ := by unfold hostP; rw [r1, if_pos rfl]; simp only [List.getD_eq_getElem?_getD, hz, Option.getD_some]
        rw [r1, r2]
        have hlow := hl.length
        have hcp := hl.cap
        unfold maxLen at hcp
        have hxl : x.block < w.heap.size := by have := World.block_lt_of_cell? w _ hc; rwa [ent_add_block] at this
        have HC := Lib.hid (fun W (q : Below w.heap.size w W) => (show W.cell? x = some (.int .i64 y0) from (q.cell (p := x.add 0) (by rw [ent_add_block]; exact hxl)).trans hc))
        have HTL := Lib.hid (fun W (q : Below w.heap.size w W) => (show IList W (fun b => b < w.heap.size) (some (x.add 1)) (n - 1) (c - 1) (L.drop 1) from (hl.same q).back 1 (by omega) (by omega)))
        have hn2 : ¬ (n : Int) ≤ 2 := by omega
        clear hl hz hc r1 r2 q1
        go_enter Try.func13, Try.ntmps13
        generalize hw0 : ((w.alloc (poRow (some x) n c h k)).alloc (confRow cz cs cb cq cd ch)).alloc (poRow none 0 0 0 0) = w0 at *
        go_wp2_with (first
          | ((with_reducible refine Plan.load_lit 24 (.tmp 2) (w.heap.size) ?_ K.hp Try.underlying24 ?_ ?_ ?_); (· rfl); (· rfl); (· exact po_info); simp only [Act.put, List.setIfInBounds_toArray, List.set_cons_zero, List.set_cons_succ])
          | ((with_reducible refine Plan.load_lit 26 (.tmp 3) (w.heap.size + 1) ?_ K.hc Try.underlying26 ?_ ?_ ?_); (· rfl); (· rfl); (· exact conf_info); simp only [Act.put, List.setIfInBounds_toArray, List.set_cons_zero, List.set_cons_succ])
          | (go_at_call 24; ((with_reducible refine (HV.out _ K.hb).mono ?_); rintro r9 w1 ⟨rfl, h1⟩; have K1 := K.on h1; clear K hw0 HV h1; have K := K1; clear K1; obtain ⟨c0, c1, c2⟩ := three_row K.hp; have d0 := HC.out _ K.hb))
          | ((with_reducible refine store_int_c 3 (.tmp 26) (.tmp 25) w.heap.size 1 .i64 y0 ?_ ?_ ⟨_, (three_row K.hp).2.1⟩ (free_row_c K.hp) Put.int_info1 ?_); (· rfl); (· rfl); simp only [Act.put]; rw [setCell_eq_setRow _ _ _ _ _ _ _ K.hp]; simp only [List.setIfInBounds_toArray, List.set_cons_zero, List.set_cons_succ]; have K1 := K.put (XP := poRow (some x) n c y0 k) rfl; clear K c0 c1 c2 d0; have K := K1; clear K1; generalize w1.setRow w.heap.size _ = w2 at *; have O2 := Lib.hid (ints_empty w2 (H := w2.heap.size) rfl); have K2 := K.al (.cells #[] 3); obtain ⟨c0, c1, c2⟩ := three_row K2.hp)
          | (at_builtin; refine append_ints rfl (.tmp 27) (.tmp 30) rfl w2.heap.size _ 0 [] rfl O2.out _ _ _ (L.drop 1) rfl (HTL.out _ K2.hb) (by omega) (by simp) ?_; intro v9 w9 own9 gr9; rw [Nat.zero_add, List.nil_append] at own9; obtain ⟨a9, c9, rfl, l9⟩ := own_ilist (F := fun b => w2.heap.size ≤ b) own9 (fun b hb => (own9.lt b hb).1); have K9 := K2.grown gr9 (fun z hz => by have h8 : w2.heap.size = z := Option.some.inj hz; have := K.lt; omega); have hlt9 := K.lt; clear K K2 c0 c1 c2 O2 own9 gr9; have K := K9; clear K9)
          | ((with_reducible refine store_slice_c 22 (.tmp 32) (.tmp 31) w.heap.size 0 a9 (n - 1) c9 ?_ ?_ ⟨_, (three_row K.hp).1⟩ (free_row_c K.hp) ints_info1 ?_); (· rfl); (· rfl); simp only [Act.put]; rw [setCell_eq_setRow _ _ _ _ _ _ _ K.hp]; simp only [List.setIfInBounds_toArray, List.set_cons_zero]; have l8 := l9.on (Same.row (r := w.heap.size) (fun h => by have h8 : w2.heap.size ≤ w.heap.size := h; omega) #[.slice a9 (n - 1) c9, .int .i64 y0, .int .i64 k]); have K1 := K.put (XP := poRow a9 (n - 1) c9 y0 k) rfl; clear K l9; have K := K1; clear K1)
          | ((with_reducible refine Plan.store_lit 24 (.tmp 4) _ (w.heap.size + 2) ?_ K.hr ?_ ?_ ?_ ?_ ?_ ?_); rotate_left; (· rfl); (· rfl); (· exact po_info); (· rfl); (· simp [Value.oneCell']); simp only [Act.put]))
        exact bodyPost_ret (Plan.results_cell_tmp (p := 4) (q := 5) rfl _ _ _ _ _ _ _ rfl (setRow_heap _ _ _ _ _ _ K.hr) Try.underlying24 rfl po_info) rfl ⟨_, _, _, _, _, rfl, ⟨rfl, rfl, (l8.on (Same.row (r := w.heap.size + 2) (fun h => by have h8 : w2.heap.size ≤ w.heap.size + 2 := h; omega) _)).mono (fun b _ h => .inr (by have h8 : w2.heap.size ≤ b := h; omega))⟩, below_setRow K.hb (show w.heap.size ≤ w.heap.size + 2 by omega) _⟩
    · have t9 : (h != (-1 : Int)) = true := by simpa using q1
      have r1 : hostB V D ⟨L, h, k⟩ = false := by simp [hostB, q1]
      have r2 : hostP V D ⟨L, h, k⟩ = ⟨L, h, k⟩ := by unfold hostP; rw [r1]; rfl
      rw [r1, r2]
      clear q1
      clear r1 r2
      clear hl
      go_enter Try.func13, Try.ntmps13
      generalize hw0 : ((w.alloc (poRow a n c h k)).alloc (confRow cz cs cb cq cd ch)).alloc (poRow none 0 0 0 0) = w0 at *
      go_wp2_with (first
        | ((with_reducible refine Plan.load_lit 24 (.tmp 2) (w.heap.size) ?_ K.hp Try.underlying24 ?_ ?_ ?_); (· rfl); (· rfl); (· exact po_info); simp only [Act.put, List.setIfInBounds_toArray, List.set_cons_zero, List.set_cons_succ])
        | ((with_reducible refine Plan.load_lit 26 (.tmp 3) (w.heap.size + 1) ?_ K.hc Try.underlying26 ?_ ?_ ?_); (· rfl); (· rfl); (· exact conf_info); simp only [Act.put, List.setIfInBounds_toArray, List.set_cons_zero, List.set_cons_succ])
        | (go_at_call 24; ((with_reducible refine (HV.out _ K.hb).mono ?_); rintro r9 w1 ⟨rfl, h1⟩; have K1 := K.on h1; clear K hw0 HV h1; have K := K1; clear K1; obtain ⟨c0, c1, c2⟩ := three_row K.hp))
        | ((with_reducible refine Plan.store_lit 24 (.tmp 4) _ (w.heap.size + 2) ?_ K.hr ?_ ?_ ?_ ?_ ?_ ?_); rotate_left; (· rfl); (· rfl); (· exact po_info); (· rfl); (· simp [Value.oneCell']); simp only [Act.put]))
      exact bodyPost_ret (Plan.results_cell_tmp (p := 4) (q := 5) rfl _ _ _ _ _ _ _ rfl (setRow_heap _ _ _ _ _ _ K.hr) Try.underlying24 rfl po_info) rfl ⟨_, _, _, _, _, rfl, ⟨rfl, rfl, HEND.out _ K.hb _⟩, below_setRow K.hb (show w.heap.size ≤ w.heap.size + 2 by omega) _⟩
set_option maxHeartbeats 8000000 in
set_option maxRecDepth 20000 in
theorem refCleaner_any (F : Nat → Prop) (P : Po) (cz cs cb cq cd ch : Int) (a : Option Addr) (n c : Nat) (h k : Int) (w : World) (hl : FList w F a n c h k P) (hn : n ≤ 900000) :
    Calls Try.prog 14 #[poV a n c h k, confV cz cs cb cq cd ch] w
      (PoPost w F (cleanP (decide (errN cz cs cb cq cd ch = 0)) (isN cz cs cb cq cd ch) P) (cleanB (decide (errN cz cs cb cq cd ch = 0)) (isN cz cs cb cq cd ch) P)) := by
  have K := PW.start w (poRow a n c h k) (confRow cz cs cb cq cd ch)
  have HV := Lib.hid (fun W (q : Below w.heap.size w W) => refPValid_any _ P cz cs cb cq cd ch a n c h k W (hl.same q))
  unfold confV at *
  generalize decide (errN cz cs cb cq cd ch = 0) = V at *
  generalize isN cz cs cb cq cd ch = D at *
  obtain ⟨L, h0, k0⟩ := P
  obtain ⟨e1, e2, hl⟩ := hl
  simp only at e1 e2 hl
  subst e1 e2
  generalize h0 = h at *
  generalize k0 = k at *
  have hlen := hl.length
  have HEND := Lib.hid (fun W (q : Below w.heap.size w W) (cs : Array Value) => (show IList (W.setRow (w.heap.size + 2) cs) (Plus F w.heap.size) a n c L from
    ((hl.cut.on (Same.below (w' := W) q)).on (Same.row (r := w.heap.size + 2) (fun h9 => by have := h9.2; omega) cs)).mono (fun b _ h => .inl h.1)))
  cases hva : validP V D ⟨L, h, k⟩
  · have r1 : cleanB V D ⟨L, h, k⟩ = false := by simp [cleanB, hva]
    have r2 : cleanP V D ⟨L, h, k⟩ = ⟨L, h, k⟩ := by unfold cleanP; rw [r1]; rfl
    rw [hva] at HV
    rw [r1, r2]
    clear hva
    clear hl
    go_enter Try.func14, Try.ntmps14
    generalize hw0 : ((w.alloc (poRow a n c h k)).alloc (confRow cz cs cb cq cd ch)).alloc (poRow none 0 0 0 0) = w0 at *
    go_wp2_with (first
      | ((with_reducible refine Plan.load_lit 24 (.tmp 2) (w.heap.size) ?_ K.hp Try.underlying24 ?_ ?_ ?_); (· rfl); (· rfl); (· exact po_info); simp only [Act.put, List.setIfInBounds_toArray, List.set_cons_zero, List.set_cons_succ])
      | ((with_reducible refine Plan.load_lit 26 (.tmp 3) (w.heap.size + 1) ?_ K.hc Try.underlying26 ?_ ?_ ?_); (· rfl); (· rfl); (· exact conf_info); simp only [Act.put, List.setIfInBounds_toArray, List.set_cons_zero, List.set_cons_succ])
      | (go_at_call 24; ((with_reducible refine (HV.out _ K.hb).mono ?_); rintro r9 w1 ⟨rfl, h1⟩; have K1 := K.on h1; clear K hw0 HV h1; have K := K1; clear K1; obtain ⟨c0, c1, c2⟩ := three_row K.hp))
      | ((with_reducible refine Plan.store_lit 24 (.tmp 4) _ (w.heap.size + 2) ?_ K.hr ?_ ?_ ?_ ?_ ?_ ?_); rotate_left; (· rfl); (· rfl); (· exact po_info); (· rfl); (· simp [Value.oneCell']); simp only [Act.put]))
    exact bodyPost_ret (Plan.results_cell_tmp (p := 4) (q := 5) rfl _ _ _ _ _ _ _ rfl (setRow_heap _ _ _ _ _ _ K.hr) Try.underlying24 rfl po_info) rfl ⟨_, _, _, _, _, rfl, ⟨rfl, rfl, HEND.out _ K.hb _⟩, below_setRow K.hb (show w.heap.size ≤ w.heap.size + 2 by omega) _⟩
  · rw [hva] at HV
    by_cases q1 : k = -1
    · have t9 : (k != (-1 : Int)) = false := by simpa using q1
      by_cases q2 : n = 0
      · have r1 : cleanB V D ⟨L, h, k⟩ = false := by simp [cleanB, hlen, q2]
        have r2 : cleanP V D ⟨L, h, k⟩ = ⟨L, h, k⟩ := by unfold cleanP; rw [r1]; rfl
        have t8 : ((n : Int) == 0) = true := by simp; omega
        rw [r1, r2]
        clear q1 q2 r1 r2
        clear hl
        go_enter Try.func14, Try.ntmps14
        generalize hw0 : ((w.alloc (poRow a n c h k)).alloc (confRow cz cs cb cq cd ch)).alloc (poRow none 0 0 0 0) = w0 at *
        go_wp2_with (first
          | ((with_reducible refine Plan.load_lit 24 (.tmp 2) (w.heap.size) ?_ K.hp Try.underlying24 ?_ ?_ ?_); (· rfl); (· rfl); (· exact po_info); simp only [Act.put, List.setIfInBounds_toArray, List.set_cons_zero, List.set_cons_succ])
          | ((with_reducible refine Plan.load_lit 26 (.tmp 3) (w.heap.size + 1) ?_ K.hc Try.underlying26 ?_ ?_ ?_); (· rfl); (· rfl); (· exact conf_info); simp only [Act.put, List.setIfInBounds_toArray, List.set_cons_zero, List.set_cons_succ])
          | (go_at_call 24; ((with_reducible refine (HV.out _ K.hb).mono ?_); rintro r9 w1 ⟨rfl, h1⟩; have K1 := K.on h1; clear K hw0 HV h1; have K := K1; clear K1; obtain ⟨c0, c1, c2⟩ := three_row K.hp))
          | ((with_reducible refine Plan.store_lit 24 (.tmp 4) _ (w.heap.size + 2) ?_ K.hr ?_ ?_ ?_ ?_ ?_ ?_); rotate_left; (· rfl); (· rfl); (· exact po_info); (· rfl); (· simp [Value.oneCell']); simp only [Act.put]))
        exact bodyPost_ret (Plan.results_cell_tmp (p := 4) (q := 5) rfl _ _ _ _ _ _ _ rfl (setRow_heap _ _ _ _ _ _ K.hr) Try.underlying24 rfl po_info) rfl ⟨_, _, _, _, _, rfl, ⟨rfl, rfl, HEND.out _ K.hb _⟩, below_setRow K.hb (show w.heap.size ≤ w.heap.size + 2 by omega) _⟩
      · have t8 : ((n : Int) == 0) = false := by simp; omega
        have hcp0 := hl.cap
        rcases (show c = 1 ∨ 1 < c by omega) with h1c | h1c
        · obtain rfl : n = 1 := by omega
          subst h1c
          obtain ⟨x, y0, rfl, hz, hc⟩ := hl.at' 0 (by omega)
          have r1 : cleanB V D ⟨L, h, k⟩ = true := by simp only [cleanB]; rw [hva, decide_eq_true q1, decide_eq_true (show 0 < L.length by omega)]; rfl
          have r2 : cleanP V D ⟨L, h, k⟩ = ⟨L.drop 1, h, y0⟩ := by unfold cleanP; rw [r1, if_pos rfl]; simp only [List.getD_eq_getElem?_getD, hz, Option.getD_some]
          rw [r1, r2]
          have hlow := hl.length
          have hcp := hl.cap
          unfold maxLen at hcp
          have hxl : x.block < w.heap.size := by have := World.block_lt_of_cell? w _ hc; rwa [ent_add_block] at this
          have HC := Lib.hid (fun W (q : Below w.heap.size w W) => (show W.cell? x = some (.int .i64 y0) from (q.cell (p := x.add 0) (by rw [ent_add_block]; exact hxl)).trans hc))
          have HTL := Lib.hid (fun W (q : Below w.heap.size w W) => (show IList W (fun b => b < w.heap.size) (some x) 0 0 (L.drop 1) from .inr ⟨x, rfl, Nat.le_refl _, Nat.zero_le _, by rw [List.length_drop]; omega, Nat.lt_of_lt_of_le hxl q.size, hxl, fun j z hz => absurd (List.getElem?_eq_some_iff.1 hz).1 (by rw [List.length_drop]; omega)⟩))
          clear hl hz hc t8 r1 r2 q1
          go_enter Try.func14, Try.ntmps14
          generalize hw0 : ((w.alloc (poRow (some x)  1 1 h k)).alloc (confRow cz cs cb cq cd ch)).alloc (poRow none 0 0 0 0) = w0 at *
          go_wp2_with (first
            | ((with_reducible refine Plan.load_lit 24 (.tmp 2) (w.heap.size) ?_ K.hp Try.underlying24 ?_ ?_ ?_); (· rfl); (· rfl); (· exact po_info); simp only [Act.put, List.setIfInBounds_toArray, List.set_cons_zero, List.set_cons_succ])
            | ((with_reducible refine Plan.load_lit 26 (.tmp 3) (w.heap.size + 1) ?_ K.hc Try.underlying26 ?_ ?_ ?_); (· rfl); (· rfl); (· exact conf_info); simp only [Act.put, List.setIfInBounds_toArray, List.set_cons_zero, List.set_cons_succ])
            | (go_at_call 24; ((with_reducible refine (HV.out _ K.hb).mono ?_); rintro r9 w1 ⟨rfl, h1⟩; have K1 := K.on h1; clear K hw0 HV h1; have K := K1; clear K1; obtain ⟨c0, c1, c2⟩ := three_row K.hp; have d0 := HC.out _ K.hb))
            | ((with_reducible refine store_int_c 3 (.tmp 26) (.tmp 25) w.heap.size 2 .i64 y0 ?_ ?_ ⟨_, (three_row K.hp).2.2⟩ (free_row_c K.hp) Put.int_info1 ?_); (· rfl); (· rfl); simp only [Act.put]; rw [setCell_eq_setRow _ _ _ _ _ _ _ K.hp]; simp only [List.setIfInBounds_toArray, List.set_cons_zero, List.set_cons_succ]; have K1 := K.put (XP := poRow (some x) 1 1 h y0) rfl; clear K c0 c1 c2 d0; have K := K1; clear K1; generalize w1.setRow w.heap.size _ = w2 at *; have O2 := Lib.hid (ints_empty w2 (H := w2.heap.size) rfl); have K2 := K.al (.cells #[] 3); obtain ⟨c0, c1, c2⟩ := three_row K2.hp)
            | (at_builtin; refine append_ints rfl (.tmp 27) (.tmp 30) rfl w2.heap.size _ 0 [] rfl O2.out _ _ _ (L.drop 1) rfl (HTL.out _ K2.hb) (by omega) (by simp) ?_; intro v9 w9 own9 gr9; rw [Nat.zero_add, List.nil_append] at own9; obtain ⟨a9, c9, rfl, l9⟩ := own_ilist (F := fun b => w2.heap.size ≤ b) own9 (fun b hb => (own9.lt b hb).1); have K9 := K2.grown gr9 (fun z hz => by have h8 : w2.heap.size = z := Option.some.inj hz; have := K.lt; omega); have hlt9 := K.lt; clear K K2 c0 c1 c2 O2 own9 gr9; have K := K9; clear K9)
            | ((with_reducible refine store_slice_c 22 (.tmp 32) (.tmp 31) w.heap.size 0 a9 0 c9 ?_ ?_ ⟨_, (three_row K.hp).1⟩ (free_row_c K.hp) ints_info1 ?_); (· rfl); (· rfl); simp only [Act.put]; rw [setCell_eq_setRow _ _ _ _ _ _ _ K.hp]; simp only [List.setIfInBounds_toArray, List.set_cons_zero]; have l8 := l9.on (Same.row (r := w.heap.size) (fun h => by have h8 : w2.heap.size ≤ w.heap.size := h; omega) #[.slice a9 0 c9, .int .i64 h, .int .i64 y0]); have K1 := K.put (XP := poRow a9 0 c9 h y0) rfl; clear K l9; have K := K1; clear K1)
            | ((with_reducible refine Plan.store_lit 24 (.tmp 4) _ (w.heap.size + 2) ?_ K.hr ?_ ?_ ?_ ?_ ?_ ?_); rotate_left; (· rfl); (· rfl); (· exact po_info); (· rfl); (· simp [Value.oneCell']); simp only [Act.put]))
          exact bodyPost_ret (Plan.results_cell_tmp (p := 4) (q := 5) rfl _ _ _ _ _ _ _ rfl (setRow_heap _ _ _ _ _ _ K.hr) Try.underlying24 rfl po_info) rfl ⟨_, _, _, _, _, rfl, ⟨rfl, rfl, (l8.on (Same.row (r := w.heap.size + 2) (fun h => by have h8 : w2.heap.size ≤ w.heap.size + 2 := h; omega) _)).mono (fun b _ h => .inr (by have h8 : w2.heap.size ≤ b := h; omega))⟩, below_setRow K.hb (show w.heap.size ≤ w.heap.size + 2 by omega) _⟩
        · obtain ⟨x, y0, rfl, hz, hc⟩ := hl.at' 0 (by omega)
          have r1 : cleanB V D ⟨L, h, k⟩ = true := by simp only [cleanB]; rw [hva, decide_eq_true q1, decide_eq_true (show 0 < L.length by omega)]; rfl
          have r2 : cleanP V D ⟨L, h, k⟩ = ⟨L.drop 1, h, y0⟩ := by unfold cleanP; rw [r1, if_pos rfl]; simp only [List.getD_eq_getElem?_getD, hz, Option.getD_some]
          rw [r1, r2]
          have hlow := hl.length
          have hcp := hl.cap
          unfold maxLen at hcp
          have hxl : x.block < w.heap.size := by have := World.block_lt_of_cell? w _ hc; rwa [ent_add_block] at this
          have HC := Lib.hid (fun W (q : Below w.heap.size w W) => (show W.cell? x = some (.int .i64 y0) from (q.cell (p := x.add 0) (by rw [ent_add_block]; exact hxl)).trans hc))
          have HTL := Lib.hid (fun W (q : Below w.heap.size w W) => (show IList W (fun b => b < w.heap.size) (some (x.add 1)) (n - 1) (c - 1) (L.drop 1) from (hl.same q).back 1 (by omega) (by omega)))
          have hn2 : ¬ (n : Int) = 0 := by omega
          clear hl hz hc r1 r2 q1
          go_enter Try.func14, Try.ntmps14
          generalize hw0 : ((w.alloc (poRow (some x) n c h k)).alloc (confRow cz cs cb cq cd ch)).alloc (poRow none 0 0 0 0) = w0 at *
          go_wp2_with (first
            | ((with_reducible refine Plan.load_lit 24 (.tmp 2) (w.heap.size) ?_ K.hp Try.underlying24 ?_ ?_ ?_); (· rfl); (· rfl); (· exact po_info); simp only [Act.put, List.setIfInBounds_toArray, List.set_cons_zero, List.set_cons_succ])
            | ((with_reducible refine Plan.load_lit 26 (.tmp 3) (w.heap.size + 1) ?_ K.hc Try.underlying26 ?_ ?_ ?_); (· rfl); (· rfl); (· exact conf_info); simp only [Act.put, List.setIfInBounds_toArray, List.set_cons_zero, List.set_cons_succ])
            | (go_at_call 24; ((with_reducible refine (HV.out _ K.hb).mono ?_); rintro r9 w1 ⟨rfl, h1⟩; have K1 := K.on h1; clear K hw0 HV h1; have K := K1; clear K1; obtain ⟨c0, c1, c2⟩ := three_row K.hp; have d0 := HC.out _ K.hb))
            | ((with_reducible refine store_int_c 3 (.tmp 26) (.tmp 25) w.heap.size 2 .i64 y0 ?_ ?_ ⟨_, (three_row K.hp).2.2⟩ (free_row_c K.hp) Put.int_info1 ?_); (· rfl); (· rfl); simp only [Act.put]; rw [setCell_eq_setRow _ _ _ _ _ _ _ K.hp]; simp only [List.setIfInBounds_toArray, List.set_cons_zero, List.set_cons_succ]; have K1 := K.put (XP := poRow (some x) n c h y0) rfl; clear K c0 c1 c2 d0; have K := K1; clear K1; generalize w1.setRow w.heap.size _ = w2 at *; have O2 := Lib.hid (ints_empty w2 (H := w2.heap.size) rfl); have K2 := K.al (.cells #[] 3); obtain ⟨c0, c1, c2⟩ := three_row K2.hp)
            | (at_builtin; refine append_ints rfl (.tmp 27) (.tmp 30) rfl w2.heap.size _ 0 [] rfl O2.out _ _ _ (L.drop 1) rfl (HTL.out _ K2.hb) (by omega) (by simp) ?_; intro v9 w9 own9 gr9; rw [Nat.zero_add, List.nil_append] at own9; obtain ⟨a9, c9, rfl, l9⟩ := own_ilist (F := fun b => w2.heap.size ≤ b) own9 (fun b hb => (own9.lt b hb).1); have K9 := K2.grown gr9 (fun z hz => by have h8 : w2.heap.size = z := Option.some.inj hz; have := K.lt; omega); have hlt9 := K.lt; clear K K2 c0 c1 c2 O2 own9 gr9; have K := K9; clear K9)
            | ((with_reducible refine store_slice_c 22 (.tmp 32) (.tmp 31) w.heap.size 0 a9 (n - 1) c9 ?_ ?_ ⟨_, (three_row K.hp).1⟩ (free_row_c K.hp) ints_info1 ?_); (· rfl); (· rfl); simp only [Act.put]; rw [setCell_eq_setRow _ _ _ _ _ _ _ K.hp]; simp only [List.setIfInBounds_toArray, List.set_cons_zero]; have l8 := l9.on (Same.row (r := w.heap.size) (fun h => by have h8 : w2.heap.size ≤ w.heap.size := h; omega) #[.slice a9 (n - 1) c9, .int .i64 h, .int .i64 y0]); have K1 := K.put (XP := poRow a9 (n - 1) c9 h y0) rfl; clear K l9; have K := K1; clear K1)
            | ((with_reducible refine Plan.store_lit 24 (.tmp 4) _ (w.heap.size + 2) ?_ K.hr ?_ ?_ ?_ ?_ ?_ ?_); rotate_left; (· rfl); (· rfl); (· exact po_info); (· rfl); (· simp [Value.oneCell']); simp only [Act.put]))
          exact bodyPost_ret (Plan.results_cell_tmp (p := 4) (q := 5) rfl _ _ _ _ _ _ _ rfl (setRow_heap _ _ _ _ _ _ K.hr) Try.underlying24 rfl po_info) rfl ⟨_, _, _, _, _, rfl, ⟨rfl, rfl, (l8.on (Same.row (r := w.heap.size + 2) (fun h => by have h8 : w2.heap.size ≤ w.heap.size + 2 := h; omega) _)).mono (fun b _ h => .inr (by have h8 : w2.heap.size ≤ b := h; omega))⟩, below_setRow K.hb (show w.heap.size ≤ w.heap.size + 2 by omega) _⟩
    · have t9 : (k != (-1 : Int)) = true := by simpa using q1
      have r1 : cleanB V D ⟨L, h, k⟩ = false := by simp [cleanB, q1]
      have r2 : cleanP V D ⟨L, h, k⟩ = ⟨L, h, k⟩ := by unfold cleanP; rw [r1]; rfl
      rw [r1, r2]
      clear q1
      clear r1 r2
      clear hl
      go_enter Try.func14, Try.ntmps14
      generalize hw0 : ((w.alloc (poRow a n c h k)).alloc (confRow cz cs cb cq cd ch)).alloc (poRow none 0 0 0 0) = w0 at *
      go_wp2_with (first
        | ((with_reducible refine Plan.load_lit 24 (.tmp 2) (w.heap.size) ?_ K.hp Try.underlying24 ?_ ?_ ?_); (· rfl); (· rfl); (· exact po_info); simp only [Act.put, List.setIfInBounds_toArray, List.set_cons_zero, List.set_cons_succ])
        | ((with_reducible refine Plan.load_lit 26 (.tmp 3) (w.heap.size + 1) ?_ K.hc Try.underlying26 ?_ ?_ ?_); (· rfl); (· rfl); (· exact conf_info); simp only [Act.put, List.setIfInBounds_toArray, List.set_cons_zero, List.set_cons_succ])
        | (go_at_call 24; ((with_reducible refine (HV.out _ K.hb).mono ?_); rintro r9 w1 ⟨rfl, h1⟩; have K1 := K.on h1; clear K hw0 HV h1; have K := K1; clear K1; obtain ⟨c0, c1, c2⟩ := three_row K.hp))
        | ((with_reducible refine Plan.store_lit 24 (.tmp 4) _ (w.heap.size + 2) ?_ K.hr ?_ ?_ ?_ ?_ ?_ ?_); rotate_left; (· rfl); (· rfl); (· exact po_info); (· rfl); (· simp [Value.oneCell']); simp only [Act.put]))
      exact bodyPost_ret (Plan.results_cell_tmp (p := 4) (q := 5) rfl _ _ _ _ _ _ _ rfl (setRow_heap _ _ _ _ _ _ K.hr) Try.underlying24 rfl po_info) rfl ⟨_, _, _, _, _, rfl, ⟨rfl, rfl, HEND.out _ K.hb _⟩, below_setRow K.hb (show w.heap.size ≤ w.heap.size + 2 by omega) _⟩
end Go.Proofs.Ytjdlekjikemdpaa.Ents

/- The walk of the document's Put of pools. -/
namespace Go.Proofs.Ytjdlekjikemdpaa.PoolMath
/-- a number among others that ascend, at the place that a walk finds -/
theorem ins_at {L : List Int} {z : Int} {k : Nat} (hk : k ≤ L.length) (h : ∀ i : Nat, i < k → ∀ u, L[i]? = some u → u < z) (he : k = L.length ∨ ∃ u, L[k]? = some u ∧ z ≤ u) : insL L z = L.take k ++ ([z] ++ L.drop k) := by
  have key : ∀ (k : Nat) (L : List Int), k ≤ L.length → (∀ i : Nat, i < k → ∀ u, L[i]? = some u → u < z) → (k = L.length ∨ ∃ u, L[k]? = some u ∧ z ≤ u) → L.takeWhile (· < z) = L.take k ∧ L.dropWhile (· < z) = L.drop k := by
    intro k
    induction k with
    | zero =>
      intro L _ _ h2
      cases L with
      | nil => exact ⟨rfl, rfl⟩
      | cons y r =>
        rcases h2 with h2 | ⟨u, hu, hn⟩
        · simp at h2
        · obtain rfl : y = u := by simpa using hu
          simp [show ¬ y < z by omega]
    | succ k ih =>
      intro L h0 h1 h2
      cases L with
      | nil => simp at h0
      | cons y r =>
        have hy : y < z := h1 0 (by omega) y rfl
        have := ih r (by simpa using h0) (fun i hi u hu => h1 (i + 1) (by omega) u (by simpa using hu)) (h2.imp (fun h => by simpa using h) (fun ⟨u, hu, hn⟩ => ⟨u, by simpa using hu, hn⟩))
        simp [hy, this.1, this.2]
  obtain ⟨h1, h2⟩ := key k L hk h he
  unfold insL
  rw [h1, h2]
  rfl
end Go.Proofs.Ytjdlekjikemdpaa.PoolMath
namespace Go.Proofs.Ytjdlekjikemdpaa.Ents
open Go.RowKit Plan EntMath CntMath PoolMath LayMath
theorem IList.back' {w : World} {F : Nat → Prop} {x : Addr} {n c : Nat} {L : List Int} (h : IList w F (some x) n c L) (k : Nat) (hk : k ≤ n) (hc : 0 < c) : IList w F (some (x.add k)) (n - k) (c - k) (L.drop k) := by
  rcases Nat.eq_zero_or_pos n with h0 | h0
  · rcases h with ⟨_, _, h2, _⟩ | ⟨y, h1, h2, h3, h4, h5, h6, _⟩
    · omega
    · obtain rfl := Option.some.inj h1
      have hnil : L.drop k = [] := List.drop_eq_nil_of_le (by omega)
      refine .inr ⟨_, rfl, by omega, by omega, by rw [hnil]; simp; omega, by rw [ent_add_block]; exact h5, by rw [ent_add_block]; exact h6, fun j z hz => ?_⟩
      rw [hnil] at hz
      cases hz
  · exact h.back k hk h0
set_option maxHeartbeats 16000000 in
set_option maxRecDepth 20000 in
theorem refPoPut_any (F : Nat → Prop) (P : Po) (cz cs cb cq cd ch z : Int) (a : Option Addr) (n c : Nat) (h k : Int) (w : World) (hl : FList w F a n c h k P) (hn : n ≤ 900000) :
    Calls Try.prog 16 #[poV a n c h k, confV cz cs cb cq cd ch, .int .i64 z] w
      (PoPost w F (putP (decide (errN cz cs cb cq cd ch = 0)) (isN cz cs cb cq cd ch) P z) (putB (decide (errN cz cs cb cq cd ch = 0)) (isN cz cs cb cq cd ch) P z)) := by
  have K := PW.start w (poRow a n c h k) (confRow cz cs cb cq cd ch)
  have HV := Lib.hid (fun W (q : Below w.heap.size w W) => refPValid_any _ P cz cs cb cq cd ch a n c h k W (hl.same q))
  have HD := Lib.hid (refIsData_any cz cs cb cq cd ch z)
  unfold confV at *
  generalize decide (errN cz cs cb cq cd ch = 0) = V at *
  generalize isN cz cs cb cq cd ch = D at *
  obtain ⟨L, h0, k0⟩ := P
  obtain ⟨e1, e2, hl⟩ := hl
  simp only at e1 e2 hl
  subst e1 e2
  generalize h0 = h at *
  generalize k0 = k at *
  have hlen := hl.length
  have HH := Lib.hid (fun W (q : Below w.heap.size w W) => refPHas_any _ L z a n c W (hl.same q))
  have HINS := Lib.hid (fun j hj h1 h2 => @ins_at L z j hj h1 h2)
  have HAT := Lib.hid (fun W (q : Below w.heap.size w W) i (hi : i < n) => (hl.same q).at' i hi)
  have HEND := Lib.hid (fun W (q : Below w.heap.size w W) (cs : Array Value) => (show IList (W.setRow (w.heap.size + 2) cs) (Plus F w.heap.size) a n c L from
    ((hl.cut.on (Same.below (w' := W) q)).on (Same.row (r := w.heap.size + 2) (fun h9 => by have := h9.2; omega) cs)).mono (fun b _ h => .inl h.1)))
  cases hva : validP V D ⟨L, h, k⟩
  · rw [hva] at HV
    have r1 : putB V D ⟨L, h, k⟩ z = false := by simp [putB, hva]
    have r2 : putP V D ⟨L, h, k⟩ z = ⟨L, h, k⟩ := by unfold putP; rw [r1]; rfl
    rw [r1, r2]
    clear hl r1 r2 HINS HAT
    go_enter Try.func16, Try.ntmps16
    generalize hw0 : ((w.alloc (poRow a n c h k)).alloc (confRow cz cs cb cq cd ch)).alloc (poRow none 0 0 0 0) = w0 at *
    go_wp2_with (first
      | ((with_reducible refine Plan.load_lit 24 (.tmp 3) (w.heap.size) ?_ K.hp Try.underlying24 ?_ ?_ ?_); (· rfl); (· rfl); (· exact po_info); simp only [Act.put, List.setIfInBounds_toArray, List.set_cons_zero, List.set_cons_succ])
      | ((with_reducible refine Plan.load_lit 26 (.tmp 4) (w.heap.size + 1) ?_ K.hc Try.underlying26 ?_ ?_ ?_); (· rfl); (· rfl); (· exact conf_info); simp only [Act.put, List.setIfInBounds_toArray, List.set_cons_zero, List.set_cons_succ])
      | (go_at_call 24; ((with_reducible refine (HV.out _ K.hb).mono ?_); rintro r9 w1 ⟨rfl, h1⟩; have K1 := K.on h1; clear K hw0 h1; have K := K1; clear K1; obtain ⟨c0, c1, c2⟩ := three_row K.hp))
      | ((with_reducible refine load_lit_gc 26 (.tmp 4) (w.heap.size + 1) ?_ ?_ K.hc Try.underlying26 ?_ ?_ ?_); (· rfl); (· rfl); (· rfl); (· exact conf_info); simp only [Act.put, List.setIfInBounds_toArray, List.set_cons_zero, List.set_cons_succ])
      | (go_at_call 26; ((with_reducible refine (HD.out _).mono ?_); rintro r9 w2 ⟨rfl, h1⟩; have K1 := K.on h1; clear K c0 c1 c2 h1; have K := K1; clear K1; obtain ⟨c0, c1, c2⟩ := three_row K.hp))
      | (go_at_call 27; ((with_reducible refine (HH.out _ K.hb).mono ?_); rintro r9 w3 ⟨rfl, h1⟩; have K1 := K.on h1; clear K c0 c1 c2 h1; have K := K1; clear K1; obtain ⟨c0, c1, c2⟩ := three_row K.hp))
      | ((with_reducible refine Plan.store_lit 24 (.tmp 6) _ (w.heap.size + 2) ?_ K.hr ?_ ?_ ?_ ?_ ?_ ?_); rotate_left; (· rfl); (· rfl); (· exact po_info); (· rfl); (· simp [Value.oneCell']); simp only [Act.put]))
    exact bodyPost_ret (Plan.results_cell_tmp (p := 6) (q := 7) rfl _ _ _ _ _ _ _ rfl (setRow_heap _ _ _ _ _ _ K.hr) Try.underlying24 rfl po_info) rfl ⟨_, _, _, _, _, rfl, ⟨rfl, rfl, HEND.out _ K.hb _⟩, below_setRow K.hb (show w.heap.size ≤ w.heap.size + 2 by omega) _⟩
  · cases hd : D z
    · rw [hva] at HV
      rw [hd] at HD
      have r1 : putB V D ⟨L, h, k⟩ z = false := by simp [putB, hd]
      have r2 : putP V D ⟨L, h, k⟩ z = ⟨L, h, k⟩ := by unfold putP; rw [r1]; rfl
      rw [r1, r2]
      clear hl r1 r2 HINS HAT
      go_enter Try.func16, Try.ntmps16
      generalize hw0 : ((w.alloc (poRow a n c h k)).alloc (confRow cz cs cb cq cd ch)).alloc (poRow none 0 0 0 0) = w0 at *
      go_wp2_with (first
        | ((with_reducible refine Plan.load_lit 24 (.tmp 3) (w.heap.size) ?_ K.hp Try.underlying24 ?_ ?_ ?_); (· rfl); (· rfl); (· exact po_info); simp only [Act.put, List.setIfInBounds_toArray, List.set_cons_zero, List.set_cons_succ])
        | ((with_reducible refine Plan.load_lit 26 (.tmp 4) (w.heap.size + 1) ?_ K.hc Try.underlying26 ?_ ?_ ?_); (· rfl); (· rfl); (· exact conf_info); simp only [Act.put, List.setIfInBounds_toArray, List.set_cons_zero, List.set_cons_succ])
        | (go_at_call 24; ((with_reducible refine (HV.out _ K.hb).mono ?_); rintro r9 w1 ⟨rfl, h1⟩; have K1 := K.on h1; clear K hw0 h1; have K := K1; clear K1; obtain ⟨c0, c1, c2⟩ := three_row K.hp))
        | ((with_reducible refine load_lit_gc 26 (.tmp 4) (w.heap.size + 1) ?_ ?_ K.hc Try.underlying26 ?_ ?_ ?_); (· rfl); (· rfl); (· rfl); (· exact conf_info); simp only [Act.put, List.setIfInBounds_toArray, List.set_cons_zero, List.set_cons_succ])
        | (go_at_call 26; ((with_reducible refine (HD.out _).mono ?_); rintro r9 w2 ⟨rfl, h1⟩; have K1 := K.on h1; clear K c0 c1 c2 h1; have K := K1; clear K1; obtain ⟨c0, c1, c2⟩ := three_row K.hp))
        | (go_at_call 27; ((with_reducible refine (HH.out _ K.hb).mono ?_); rintro r9 w3 ⟨rfl, h1⟩; have K1 := K.on h1; clear K c0 c1 c2 h1; have K := K1; clear K1; obtain ⟨c0, c1, c2⟩ := three_row K.hp))
        | ((with_reducible refine Plan.store_lit 24 (.tmp 6) _ (w.heap.size + 2) ?_ K.hr ?_ ?_ ?_ ?_ ?_ ?_); rotate_left; (· rfl); (· rfl); (· exact po_info); (· rfl); (· simp [Value.oneCell']); simp only [Act.put]))
      exact bodyPost_ret (Plan.results_cell_tmp (p := 6) (q := 7) rfl _ _ _ _ _ _ _ rfl (setRow_heap _ _ _ _ _ _ K.hr) Try.underlying24 rfl po_info) rfl ⟨_, _, _, _, _, rfl, ⟨rfl, rfl, HEND.out _ K.hb _⟩, below_setRow K.hb (show w.heap.size ≤ w.heap.size + 2 by omega) _⟩
    · cases hh : hasL L z
      · by_cases q1 : z = h
        · have t1 : (z == h) = true := by simpa using q1
          rw [hva] at HV
          rw [hd] at HD
          rw [hh] at HH
          have r1 : putB V D ⟨L, h, k⟩ z = false := by simp [putB, q1]
          have r2 : putP V D ⟨L, h, k⟩ z = ⟨L, h, k⟩ := by unfold putP; rw [r1]; rfl
          rw [r1, r2]
          clear q1 hl r1 r2 HINS HAT
          go_enter Try.func16, Try.ntmps16
          generalize hw0 : ((w.alloc (poRow a n c h k)).alloc (confRow cz cs cb cq cd ch)).alloc (poRow none 0 0 0 0) = w0 at *
          go_wp2_with (first
            | ((with_reducible refine Plan.load_lit 24 (.tmp 3) (w.heap.size) ?_ K.hp Try.underlying24 ?_ ?_ ?_); (· rfl); (· rfl); (· exact po_info); simp only [Act.put, List.setIfInBounds_toArray, List.set_cons_zero, List.set_cons_succ])
            | ((with_reducible refine Plan.load_lit 26 (.tmp 4) (w.heap.size + 1) ?_ K.hc Try.underlying26 ?_ ?_ ?_); (· rfl); (· rfl); (· exact conf_info); simp only [Act.put, List.setIfInBounds_toArray, List.set_cons_zero, List.set_cons_succ])
            | (go_at_call 24; ((with_reducible refine (HV.out _ K.hb).mono ?_); rintro r9 w1 ⟨rfl, h1⟩; have K1 := K.on h1; clear K hw0 h1; have K := K1; clear K1; obtain ⟨c0, c1, c2⟩ := three_row K.hp))
            | ((with_reducible refine load_lit_gc 26 (.tmp 4) (w.heap.size + 1) ?_ ?_ K.hc Try.underlying26 ?_ ?_ ?_); (· rfl); (· rfl); (· rfl); (· exact conf_info); simp only [Act.put, List.setIfInBounds_toArray, List.set_cons_zero, List.set_cons_succ])
            | (go_at_call 26; ((with_reducible refine (HD.out _).mono ?_); rintro r9 w2 ⟨rfl, h1⟩; have K1 := K.on h1; clear K c0 c1 c2 h1; have K := K1; clear K1; obtain ⟨c0, c1, c2⟩ := three_row K.hp))
            | (go_at_call 27; ((with_reducible refine (HH.out _ K.hb).mono ?_); rintro r9 w3 ⟨rfl, h1⟩; have K1 := K.on h1; clear K c0 c1 c2 h1; have K := K1; clear K1; obtain ⟨c0, c1, c2⟩ := three_row K.hp))
            | ((with_reducible refine Plan.store_lit 24 (.tmp 6) _ (w.heap.size + 2) ?_ K.hr ?_ ?_ ?_ ?_ ?_ ?_); rotate_left; (· rfl); (· rfl); (· exact po_info); (· rfl); (· simp [Value.oneCell']); simp only [Act.put]))
          exact bodyPost_ret (Plan.results_cell_tmp (p := 6) (q := 7) rfl _ _ _ _ _ _ _ rfl (setRow_heap _ _ _ _ _ _ K.hr) Try.underlying24 rfl po_info) rfl ⟨_, _, _, _, _, rfl, ⟨rfl, rfl, HEND.out _ K.hb _⟩, below_setRow K.hb (show w.heap.size ≤ w.heap.size + 2 by omega) _⟩
        · have t1 : (z == h) = false := by simpa using q1
          by_cases q2 : z = k
          · have t2 : (z == k) = true := by simpa using q2
            rw [hva] at HV
            rw [hd] at HD
            rw [hh] at HH
            have r1 : putB V D ⟨L, h, k⟩ z = false := by simp [putB, q2]
            have r2 : putP V D ⟨L, h, k⟩ z = ⟨L, h, k⟩ := by unfold putP; rw [r1]; rfl
            rw [r1, r2]
            clear q2 hl r1 r2 HINS HAT
            go_enter Try.func16, Try.ntmps16
            generalize hw0 : ((w.alloc (poRow a n c h k)).alloc (confRow cz cs cb cq cd ch)).alloc (poRow none 0 0 0 0) = w0 at *
            go_wp2_with (first
              | ((with_reducible refine Plan.load_lit 24 (.tmp 3) (w.heap.size) ?_ K.hp Try.underlying24 ?_ ?_ ?_); (· rfl); (· rfl); (· exact po_info); simp only [Act.put, List.setIfInBounds_toArray, List.set_cons_zero, List.set_cons_succ])
              | ((with_reducible refine Plan.load_lit 26 (.tmp 4) (w.heap.size + 1) ?_ K.hc Try.underlying26 ?_ ?_ ?_); (· rfl); (· rfl); (· exact conf_info); simp only [Act.put, List.setIfInBounds_toArray, List.set_cons_zero, List.set_cons_succ])
              | (go_at_call 24; ((with_reducible refine (HV.out _ K.hb).mono ?_); rintro r9 w1 ⟨rfl, h1⟩; have K1 := K.on h1; clear K hw0 h1; have K := K1; clear K1; obtain ⟨c0, c1, c2⟩ := three_row K.hp))
              | ((with_reducible refine load_lit_gc 26 (.tmp 4) (w.heap.size + 1) ?_ ?_ K.hc Try.underlying26 ?_ ?_ ?_); (· rfl); (· rfl); (· rfl); (· exact conf_info); simp only [Act.put, List.setIfInBounds_toArray, List.set_cons_zero, List.set_cons_succ])
              | (go_at_call 26; ((with_reducible refine (HD.out _).mono ?_); rintro r9 w2 ⟨rfl, h1⟩; have K1 := K.on h1; clear K c0 c1 c2 h1; have K := K1; clear K1; obtain ⟨c0, c1, c2⟩ := three_row K.hp))
              | (go_at_call 27; ((with_reducible refine (HH.out _ K.hb).mono ?_); rintro r9 w3 ⟨rfl, h1⟩; have K1 := K.on h1; clear K c0 c1 c2 h1; have K := K1; clear K1; obtain ⟨c0, c1, c2⟩ := three_row K.hp))
              | ((with_reducible refine Plan.store_lit 24 (.tmp 6) _ (w.heap.size + 2) ?_ K.hr ?_ ?_ ?_ ?_ ?_ ?_); rotate_left; (· rfl); (· rfl); (· exact po_info); (· rfl); (· simp [Value.oneCell']); simp only [Act.put]))
            exact bodyPost_ret (Plan.results_cell_tmp (p := 6) (q := 7) rfl _ _ _ _ _ _ _ rfl (setRow_heap _ _ _ _ _ _ K.hr) Try.underlying24 rfl po_info) rfl ⟨_, _, _, _, _, rfl, ⟨rfl, rfl, HEND.out _ K.hb _⟩, below_setRow K.hb (show w.heap.size ≤ w.heap.size + 2 by omega) _⟩
          · have t2 : (z == k) = false := by simpa using q2
            have r1 : putB V D ⟨L, h, k⟩ z = true := by simp only [putB]; rw [hva, hd, hh, decide_eq_false q1, decide_eq_false q2]; rfl
            have r2 : putP V D ⟨L, h, k⟩ z = ⟨insL L z, h, k⟩ := by unfold putP; rw [r1, if_pos rfl]
            rw [r1, r2]
            rw [hva] at HV
            rw [hd] at HD
            rw [hh] at HH
            have hcp := hl.cap
            unfold maxLen at hcp
            clear r1 r2 q1 q2 HEND
            cases a with
            | none =>
              obtain ⟨rfl, rfl, rfl⟩ : n = 0 ∧ c = 0 ∧ L = [] := by
                rcases hl with ⟨_, h1, h2, h3⟩ | ⟨x, h1, _⟩
                · exact ⟨h1, h2, h3⟩
                · cases h1
              clear hl HAT HINS
              obtain ⟨A, hA⟩ : ∃ A : List Int, A = [] := ⟨_, rfl⟩
              obtain ⟨B, hB⟩ : ∃ B : List Int, B = [] := ⟨_, rfl⟩
              have HI : insL [] z = A ++ ([z] ++ B) := by rw [hA, hB]; rfl
              have HFR := Lib.hid (fun W (_ : Below w.heap.size w W) => (show IList W (fun b => b < w.heap.size) none 0 0 A from by rw [hA]; exact IList.nil W _))
              have HBK := Lib.hid (fun W (_ : Below w.heap.size w W) => (show IList W (fun b => b < w.heap.size) none 0 0 B from by rw [hB]; exact IList.nil W _))
              generalize insL [] z = Z at *
              replace HI := Lib.hid HI
              clear hA hB
              go_enter Try.func16, Try.ntmps16
              generalize hw0 : ((w.alloc (poRow none 0 0 h k)).alloc (confRow cz cs cb cq cd ch)).alloc (poRow none 0 0 0 0) = w0 at *
              go_wp2_with (first
                | ((with_reducible refine Plan.load_lit 24 (.tmp 3) (w.heap.size) ?_ K.hp Try.underlying24 ?_ ?_ ?_); (· rfl); (· rfl); (· exact po_info); simp only [Act.put, List.setIfInBounds_toArray, List.set_cons_zero, List.set_cons_succ])
                | ((with_reducible refine Plan.load_lit 26 (.tmp 4) (w.heap.size + 1) ?_ K.hc Try.underlying26 ?_ ?_ ?_); (· rfl); (· rfl); (· exact conf_info); simp only [Act.put, List.setIfInBounds_toArray, List.set_cons_zero, List.set_cons_succ])
                | (go_at_call 24; ((with_reducible refine (HV.out _ K.hb).mono ?_); rintro r9 w1 ⟨rfl, h1⟩; have K1 := K.on h1; clear K hw0 h1; have K := K1; clear K1; obtain ⟨c0, c1, c2⟩ := three_row K.hp))
                | ((with_reducible refine load_lit_gc 26 (.tmp 4) (w.heap.size + 1) ?_ ?_ K.hc Try.underlying26 ?_ ?_ ?_); (· rfl); (· rfl); (· rfl); (· exact conf_info); simp only [Act.put, List.setIfInBounds_toArray, List.set_cons_zero, List.set_cons_succ])
                | (go_at_call 26; ((with_reducible refine (HD.out _).mono ?_); rintro r9 w2 ⟨rfl, h1⟩; have K1 := K.on h1; clear K c0 c1 c2 h1; have K := K1; clear K1; obtain ⟨c0, c1, c2⟩ := three_row K.hp))
                | (go_at_call 27; ((with_reducible refine (HH.out _ K.hb).mono ?_); rintro r9 w3 ⟨rfl, h1⟩; have K1 := K.on h1; clear K c0 c1 c2 h1; have K := K1; clear K1; obtain ⟨c0, c1, c2⟩ := three_row K.hp)))
              go_loopw [8] (fun x wr => x = .int .i64 0 ∧ PW w wr (poRow none 0 0 h k) (confRow cz cs cb cq cd ch)) (fun _ _ => 0)
              case atStart => exact ⟨rfl, K⟩
              case round =>
                clear K c0 c1 c2
                obtain ⟨rfl, K⟩ := hrel
                obtain ⟨c0, c1, c2⟩ := three_row K.hp
                have O2 := Lib.hid (ints_empty wr (H := wr.heap.size) rfl)
                have K2 := K.al (.cells #[] 3)
                have hlt0 := K.lt
                have hbs := K.hb
                obtain ⟨e0, e1, e2⟩ := three_row K2.hp
                go_wp2_with (first
                  | (at_builtin; refine append_ints rfl (.tmp 55) (.tmp 59) rfl wr.heap.size _ 0 [] rfl O2.out _ _ _ A rfl (HFR.out _ K2.hb) (by omega) (by simp) ?_; intro v9 w9 own9 gr9; rw [Nat.zero_add, List.nil_append] at own9; have K9 := K2.grown gr9 (fun z hz => by have h8 : wr.heap.size = z := Option.some.inj hz; omega); have hs9 := gr9.size; rw [World.size_alloc] at hs9; clear K K2 c0 c1 c2 e0 e1 e2 O2 gr9; have K := K9; clear K9; have own8 := e_owns_on own9 ((Below.refl _ _).alloc (Nat.le_refl _) (.cells #[.int .i64 z] 3 (0, 0))); have K2 := K.al (.cells #[.int .i64 z] 3 (0, 0)); have hbk9 := fun b hb => (own9.lt b hb).1; obtain ⟨c0, c1, c2⟩ := three_row K2.hp)
                  | (at_builtin; refine append_int rfl (.tmp 61) (.tmp 63) rfl wr.heap.size v9 0 A rfl own8 w9.heap.size z rfl (heap_alloc_new w9 (.cells #[.int .i64 z] 3 (0, 0))) (by omega) (by rw [World.size_alloc]; omega) ?_; intro g10 k10 w10 own10 gr10 at10; have K9 := K2.grown gr10 (fun z hz => by have h8 := hbk9 z hz; omega); have hs10 := gr10.size; rw [World.size_alloc] at hs10; have hg10 := (own10.lt g10 rfl).1; clear K K2 c0 c1 c2 gr10 at10 hbk9; have K := K9; clear K9; obtain ⟨c0, c1, c2⟩ := three_row K.hp)
                  | (at_builtin; refine append_ints rfl (.tmp 65) (.tmp 69) rfl wr.heap.size _ (0 + 1) (A ++ [z]) rfl own10 _ _ _ B rfl (HBK.out _ K.hb) (by omega) (by omega) ?_; intro v11 w11 own11 gr11; have K9 := K.grown gr11 (fun z hz => by have h8 : g10 = z := Option.some.inj hz; omega); rw [show 0 + 1 + (0 - 0) = 0 + 1 from by omega, List.append_assoc] at own11; obtain ⟨a9, c9, rfl, l9⟩ := own_ilist (F := fun b => wr.heap.size ≤ b) own11 (fun b hb => (own11.lt b hb).1); clear K c0 c1 c2 gr11 own11; have K := K9; clear K9)
                  | ((with_reducible refine store_slice_c 22 (.tmp 71) (.tmp 70) w.heap.size 0 a9 (0 + 1) c9 ?_ ?_ ⟨_, (three_row K.hp).1⟩ (free_row_c K.hp) ints_info1 ?_); (· rfl); (· rfl); simp only [Act.put]; rw [setCell_eq_setRow _ _ _ _ _ _ _ K.hp]; simp only [List.setIfInBounds_toArray, List.set_cons_zero]; have l8 := l9.on (Same.row (r := w.heap.size) (fun h => by have h8 : wr.heap.size ≤ w.heap.size := h; omega) #[.slice a9 (0 + 1) c9, .int .i64 h, .int .i64 k]); have K1 := K.put (XP := poRow a9 (0 + 1) c9 h k) rfl; clear K l9; have K := K1; clear K1)
                  | ((with_reducible refine Plan.load_lit 24 (.tmp 3) (w.heap.size) ?_ K.hp Try.underlying24 ?_ ?_ ?_); (· rfl); (· rfl); (· exact po_info); simp only [Act.put, List.setIfInBounds_toArray, List.set_cons_zero, List.set_cons_succ])
                  | ((with_reducible refine Plan.store_lit 24 (.tmp 6) _ (w.heap.size + 2) ?_ K.hr ?_ ?_ ?_ ?_ ?_ ?_); rotate_left; (· rfl); (· rfl); (· exact po_info); (· rfl); (· simp [Value.oneCell']); simp only [Act.put]))
                exact bodyPost_ret (Plan.results_cell_tmp (p := 6) (q := 7) rfl _ _ _ _ _ _ _ rfl (setRow_heap _ _ _ _ _ _ K.hr) Try.underlying24 rfl po_info) rfl ⟨_, _, _, _, _, rfl, ⟨rfl, rfl, by rw [HI.out]; exact (l8.on (Same.row (r := w.heap.size + 2) (fun h => by have h8 : wr.heap.size ≤ w.heap.size + 2 := h; omega) _)).mono (fun b _ h => .inr (by have h8 : wr.heap.size ≤ b := h; have := hbs.size; omega))⟩, below_setRow K.hb (show w.heap.size ≤ w.heap.size + 2 by omega) _⟩
            | some x =>
              have HFR := Lib.hid (fun j (hj : j ≤ n) W (q : Below w.heap.size w W) => (hl.same q).front j hj)
              have HBK := Lib.hid (fun j (hj : j ≤ n) (hc : 0 < c) W (q : Below w.heap.size w W) => (hl.same q).back' j hj hc)
              have HNO := Lib.hid (show L.drop n = [] from by rw [← hlen]; exact List.drop_length)
              clear hl
              go_enter Try.func16, Try.ntmps16
              generalize hw0 : ((w.alloc (poRow (some x) n c h k)).alloc (confRow cz cs cb cq cd ch)).alloc (poRow none 0 0 0 0) = w0 at *
              go_wp2_with (first
                | ((with_reducible refine Plan.load_lit 24 (.tmp 3) (w.heap.size) ?_ K.hp Try.underlying24 ?_ ?_ ?_); (· rfl); (· rfl); (· exact po_info); simp only [Act.put, List.setIfInBounds_toArray, List.set_cons_zero, List.set_cons_succ])
                | ((with_reducible refine Plan.load_lit 26 (.tmp 4) (w.heap.size + 1) ?_ K.hc Try.underlying26 ?_ ?_ ?_); (· rfl); (· rfl); (· exact conf_info); simp only [Act.put, List.setIfInBounds_toArray, List.set_cons_zero, List.set_cons_succ])
                | (go_at_call 24; ((with_reducible refine (HV.out _ K.hb).mono ?_); rintro r9 w1 ⟨rfl, h1⟩; have K1 := K.on h1; clear K hw0 h1; have K := K1; clear K1; obtain ⟨c0, c1, c2⟩ := three_row K.hp))
                | ((with_reducible refine load_lit_gc 26 (.tmp 4) (w.heap.size + 1) ?_ ?_ K.hc Try.underlying26 ?_ ?_ ?_); (· rfl); (· rfl); (· rfl); (· exact conf_info); simp only [Act.put, List.setIfInBounds_toArray, List.set_cons_zero, List.set_cons_succ])
                | (go_at_call 26; ((with_reducible refine (HD.out _).mono ?_); rintro r9 w2 ⟨rfl, h1⟩; have K1 := K.on h1; clear K c0 c1 c2 h1; have K := K1; clear K1; obtain ⟨c0, c1, c2⟩ := three_row K.hp))
                | (go_at_call 27; ((with_reducible refine (HH.out _ K.hb).mono ?_); rintro r9 w3 ⟨rfl, h1⟩; have K1 := K.on h1; clear K c0 c1 c2 h1; have K := K1; clear K1; obtain ⟨c0, c1, c2⟩ := three_row K.hp)))
              go_loopw [8] (fun y wr => ∃ j : Nat, y = .int .i64 (j : Int) ∧ j ≤ n ∧ RowKit.Hid (∀ i : Nat, i < j → ∀ u, L[i]? = some u → u < z) ∧ PW w wr (poRow (some x) n c h k) (confRow cz cs cb cq cd ch)) (fun y _ => n - (intOf y).toNat)
              case atStart => exact ⟨0, rfl, Nat.zero_le _, Lib.hid (fun i h => absurd h (Nat.not_lt_zero _)), K⟩
              case round =>
                clear K c0 c1 c2
                obtain ⟨j, rfl, hj, hall, K⟩ := hrel
                obtain ⟨c0, c1, c2⟩ := three_row K.hp
                by_cases hlt : j < n
                · obtain ⟨x', y, hx', hz, hc⟩ := HAT.out wr K.hb j hlt
                  obtain rfl := Option.some.inj hx'
                  clear hx'
                  have hjI : (j : Int) < (n : Int) := by omega
                  by_cases hq : y < z
                  · have HN := Lib.hid (show ∀ i : Nat, i < j + 1 → ∀ u, L[i]? = some u → u < z from fun i hi u hu => by
                      rcases Nat.lt_or_ge i j with h1 | h1
                      · exact hall.out i h1 u hu
                      · obtain rfl : i = j := by omega
                        rw [hz] at hu
                        obtain rfl := Option.some.inj hu
                        exact hq)
                    clear hz
                    have q1 : decide (y < z) = true := by simpa using hq
                    go_wp2_with fail
                    go_roundw
                    case rel => exact ⟨j + 1, by go_num, by omega, HN, K⟩
                    case measure => simp [intOf]; omega
                  · have HI := Lib.hid (HINS.out j (by omega) hall.out (.inr ⟨y, hz, Int.not_lt.1 hq⟩))
                    clear hz
                    have q1 : decide (y < z) = false := by simp; omega
                    have HFR := Lib.hid (HFR.out j hj)
                    have HBK := Lib.hid (HBK.out j hj (by omega))
                    have hjc : j < c := by omega
                    obtain ⟨A, hA⟩ : ∃ A, L.take j = A := ⟨_, rfl⟩
                    obtain ⟨B, hB⟩ : ∃ B, L.drop j = B := ⟨_, rfl⟩
                    rw [hA, hB] at HI
                    rw [hA] at HFR
                    rw [hB] at HBK
                    generalize insL L z = Z at *
                    clear hA hB
                    have O2 := Lib.hid (ints_empty wr (H := wr.heap.size) rfl)
                    have K2 := K.al (.cells #[] 3)
                    have hlt0 := K.lt
                    have hbs := K.hb
                    obtain ⟨e0, e1, e2⟩ := three_row K2.hp
                    go_wp2_with (first
                      | (at_builtin; refine append_ints rfl (.tmp 55) (.tmp 59) rfl wr.heap.size _ 0 [] rfl O2.out _ _ _ A rfl (HFR.out _ K2.hb) (by omega) (by simp) ?_; intro v9 w9 own9 gr9; rw [Nat.zero_add, List.nil_append] at own9; have K9 := K2.grown gr9 (fun z hz => by have h8 : wr.heap.size = z := Option.some.inj hz; omega); have hs9 := gr9.size; rw [World.size_alloc] at hs9; clear K K2 c0 c1 c2 e0 e1 e2 O2 gr9; have K := K9; clear K9; have own8 := e_owns_on own9 ((Below.refl _ _).alloc (Nat.le_refl _) (.cells #[.int .i64 z] 3 (0, 0))); have K2 := K.al (.cells #[.int .i64 z] 3 (0, 0)); have hbk9 := fun b hb => (own9.lt b hb).1; obtain ⟨c0, c1, c2⟩ := three_row K2.hp)
                      | (at_builtin; refine append_int rfl (.tmp 61) (.tmp 63) rfl wr.heap.size v9 j A rfl own8 w9.heap.size z rfl (heap_alloc_new w9 (.cells #[.int .i64 z] 3 (0, 0))) (by omega) (by rw [World.size_alloc]; omega) ?_; intro g10 k10 w10 own10 gr10 at10; have K9 := K2.grown gr10 (fun z hz => by have h8 := hbk9 z hz; omega); have hs10 := gr10.size; rw [World.size_alloc] at hs10; have hg10 := (own10.lt g10 rfl).1; clear K K2 c0 c1 c2 gr10 at10 hbk9; have K := K9; clear K9; obtain ⟨c0, c1, c2⟩ := three_row K.hp)
                      | (at_builtin; refine append_ints rfl (.tmp 65) (.tmp 69) rfl wr.heap.size _ (j + 1) (A ++ [z]) rfl own10 _ _ _ B rfl (HBK.out _ K.hb) (by omega) (by omega) ?_; intro v11 w11 own11 gr11; have K9 := K.grown gr11 (fun z hz => by have h8 : g10 = z := Option.some.inj hz; omega); rw [show j + 1 + (n - j) = n + 1 from by omega, List.append_assoc] at own11; obtain ⟨a9, c9, rfl, l9⟩ := own_ilist (F := fun b => wr.heap.size ≤ b) own11 (fun b hb => (own11.lt b hb).1); clear K c0 c1 c2 gr11 own11; have K := K9; clear K9)
                      | ((with_reducible refine store_slice_c 22 (.tmp 71) (.tmp 70) w.heap.size 0 a9 (n + 1) c9 ?_ ?_ ⟨_, (three_row K.hp).1⟩ (free_row_c K.hp) ints_info1 ?_); (· rfl); (· rfl); simp only [Act.put]; rw [setCell_eq_setRow _ _ _ _ _ _ _ K.hp]; simp only [List.setIfInBounds_toArray, List.set_cons_zero]; have l8 := l9.on (Same.row (r := w.heap.size) (fun h => by have h8 : wr.heap.size ≤ w.heap.size := h; omega) #[.slice a9 (n + 1) c9, .int .i64 h, .int .i64 k]); have K1 := K.put (XP := poRow a9 (n + 1) c9 h k) rfl; clear K l9; have K := K1; clear K1)
                      | ((with_reducible refine Plan.load_lit 24 (.tmp 3) (w.heap.size) ?_ K.hp Try.underlying24 ?_ ?_ ?_); (· rfl); (· rfl); (· exact po_info); simp only [Act.put, List.setIfInBounds_toArray, List.set_cons_zero, List.set_cons_succ])
                      | ((with_reducible refine Plan.store_lit 24 (.tmp 6) _ (w.heap.size + 2) ?_ K.hr ?_ ?_ ?_ ?_ ?_ ?_); rotate_left; (· rfl); (· rfl); (· exact po_info); (· rfl); (· simp [Value.oneCell']); simp only [Act.put]))
                    exact bodyPost_ret (Plan.results_cell_tmp (p := 6) (q := 7) rfl _ _ _ _ _ _ _ rfl (setRow_heap _ _ _ _ _ _ K.hr) Try.underlying24 rfl po_info) rfl ⟨_, _, _, _, _, rfl, ⟨rfl, rfl, by rw [HI.out]; exact (l8.on (Same.row (r := w.heap.size + 2) (fun h => by have h8 : wr.heap.size ≤ w.heap.size + 2 := h; omega) _)).mono (fun b _ h => .inr (by have h8 : wr.heap.size ≤ b := h; have := hbs.size; omega))⟩, below_setRow K.hb (show w.heap.size ≤ w.heap.size + 2 by omega) _⟩
                · obtain rfl : j = n := by omega
                  have hjI : ¬ (j : Int) < (j : Int) := by omega
                  have HI := Lib.hid (HINS.out j (by omega) hall.out (.inl hlen.symm))
                  have HFR := Lib.hid (HFR.out j hj)
                  rcases (show j = c ∨ j < c by omega) with hjc | hjc
                  · subst hjc
                    have HBK := Lib.hid (fun W (_ : Below w.heap.size w W) => (show IList W (fun b => b < w.heap.size) (some x) 0 0 (L.drop j) from .inl ⟨trivial, rfl, rfl, HNO.out⟩))
                    obtain ⟨A, hA⟩ : ∃ A, L.take j = A := ⟨_, rfl⟩
                    obtain ⟨B, hB⟩ : ∃ B, L.drop j = B := ⟨_, rfl⟩
                    rw [hA, hB] at HI
                    rw [hA] at HFR
                    rw [hB] at HBK
                    generalize insL L z = Z at *
                    clear hA hB
                    have O2 := Lib.hid (ints_empty wr (H := wr.heap.size) rfl)
                    have K2 := K.al (.cells #[] 3)
                    have hlt0 := K.lt
                    have hbs := K.hb
                    obtain ⟨e0, e1, e2⟩ := three_row K2.hp
                    go_wp2_with (first
                      | (at_builtin; refine append_ints rfl (.tmp 55) (.tmp 59) rfl wr.heap.size _ 0 [] rfl O2.out _ _ _ A rfl (HFR.out _ K2.hb) (by omega) (by simp) ?_; intro v9 w9 own9 gr9; rw [Nat.zero_add, List.nil_append] at own9; have K9 := K2.grown gr9 (fun z hz => by have h8 : wr.heap.size = z := Option.some.inj hz; omega); have hs9 := gr9.size; rw [World.size_alloc] at hs9; clear K K2 c0 c1 c2 e0 e1 e2 O2 gr9; have K := K9; clear K9; have own8 := e_owns_on own9 ((Below.refl _ _).alloc (Nat.le_refl _) (.cells #[.int .i64 z] 3 (0, 0))); have K2 := K.al (.cells #[.int .i64 z] 3 (0, 0)); have hbk9 := fun b hb => (own9.lt b hb).1; obtain ⟨c0, c1, c2⟩ := three_row K2.hp)
                      | (at_builtin; refine append_int rfl (.tmp 61) (.tmp 63) rfl wr.heap.size v9 j A rfl own8 w9.heap.size z rfl (heap_alloc_new w9 (.cells #[.int .i64 z] 3 (0, 0))) (by omega) (by rw [World.size_alloc]; omega) ?_; intro g10 k10 w10 own10 gr10 at10; have K9 := K2.grown gr10 (fun z hz => by have h8 := hbk9 z hz; omega); have hs10 := gr10.size; rw [World.size_alloc] at hs10; have hg10 := (own10.lt g10 rfl).1; clear K K2 c0 c1 c2 gr10 at10 hbk9; have K := K9; clear K9; obtain ⟨c0, c1, c2⟩ := three_row K.hp)
                      | (at_builtin; refine append_ints rfl (.tmp 65) (.tmp 69) rfl wr.heap.size _ (j + 1) (A ++ [z]) rfl own10 _ _ _ B rfl (HBK.out _ K.hb) (by omega) (by omega) ?_; intro v11 w11 own11 gr11; have K9 := K.grown gr11 (fun z hz => by have h8 : g10 = z := Option.some.inj hz; omega); rw [show j + 1 + 0 = j + 1 from by omega, List.append_assoc] at own11; obtain ⟨a9, c9, rfl, l9⟩ := own_ilist (F := fun b => wr.heap.size ≤ b) own11 (fun b hb => (own11.lt b hb).1); clear K c0 c1 c2 gr11 own11; have K := K9; clear K9)
                      | ((with_reducible refine store_slice_c 22 (.tmp 71) (.tmp 70) w.heap.size 0 a9 (j + 1) c9 ?_ ?_ ⟨_, (three_row K.hp).1⟩ (free_row_c K.hp) ints_info1 ?_); (· rfl); (· rfl); simp only [Act.put]; rw [setCell_eq_setRow _ _ _ _ _ _ _ K.hp]; simp only [List.setIfInBounds_toArray, List.set_cons_zero]; have l8 := l9.on (Same.row (r := w.heap.size) (fun h => by have h8 : wr.heap.size ≤ w.heap.size := h; omega) #[.slice a9 (j + 1) c9, .int .i64 h, .int .i64 k]); have K1 := K.put (XP := poRow a9 (j + 1) c9 h k) rfl; clear K l9; have K := K1; clear K1)
                      | ((with_reducible refine Plan.load_lit 24 (.tmp 3) (w.heap.size) ?_ K.hp Try.underlying24 ?_ ?_ ?_); (· rfl); (· rfl); (· exact po_info); simp only [Act.put, List.setIfInBounds_toArray, List.set_cons_zero, List.set_cons_succ])
                      | ((with_reducible refine Plan.store_lit 24 (.tmp 6) _ (w.heap.size + 2) ?_ K.hr ?_ ?_ ?_ ?_ ?_ ?_); rotate_left; (· rfl); (· rfl); (· exact po_info); (· rfl); (· simp [Value.oneCell']); simp only [Act.put]))
                    exact bodyPost_ret (Plan.results_cell_tmp (p := 6) (q := 7) rfl _ _ _ _ _ _ _ rfl (setRow_heap _ _ _ _ _ _ K.hr) Try.underlying24 rfl po_info) rfl ⟨_, _, _, _, _, rfl, ⟨rfl, rfl, by rw [HI.out]; exact (l8.on (Same.row (r := w.heap.size + 2) (fun h => by have h8 : wr.heap.size ≤ w.heap.size + 2 := h; omega) _)).mono (fun b _ h => .inr (by have h8 : wr.heap.size ≤ b := h; have := hbs.size; omega))⟩, below_setRow K.hb (show w.heap.size ≤ w.heap.size + 2 by omega) _⟩
                  · have HBK := Lib.hid (fun W (q : Below w.heap.size w W) => (show IList W (fun b => b < w.heap.size) (some (x.add j)) 0 (c - j) (L.drop j) from by have h8 := HBK.out j hj (by omega) W q; rwa [Nat.sub_self] at h8))
                    obtain ⟨A, hA⟩ : ∃ A, L.take j = A := ⟨_, rfl⟩
                    obtain ⟨B, hB⟩ : ∃ B, L.drop j = B := ⟨_, rfl⟩
                    rw [hA, hB] at HI
                    rw [hA] at HFR
                    rw [hB] at HBK
                    generalize insL L z = Z at *
                    clear hA hB
                    have O2 := Lib.hid (ints_empty wr (H := wr.heap.size) rfl)
                    have K2 := K.al (.cells #[] 3)
                    have hlt0 := K.lt
                    have hbs := K.hb
                    obtain ⟨e0, e1, e2⟩ := three_row K2.hp
                    go_wp2_with (first
                      | (at_builtin; refine append_ints rfl (.tmp 55) (.tmp 59) rfl wr.heap.size _ 0 [] rfl O2.out _ _ _ A rfl (HFR.out _ K2.hb) (by omega) (by simp) ?_; intro v9 w9 own9 gr9; rw [Nat.zero_add, List.nil_append] at own9; have K9 := K2.grown gr9 (fun z hz => by have h8 : wr.heap.size = z := Option.some.inj hz; omega); have hs9 := gr9.size; rw [World.size_alloc] at hs9; clear K K2 c0 c1 c2 e0 e1 e2 O2 gr9; have K := K9; clear K9; have own8 := e_owns_on own9 ((Below.refl _ _).alloc (Nat.le_refl _) (.cells #[.int .i64 z] 3 (0, 0))); have K2 := K.al (.cells #[.int .i64 z] 3 (0, 0)); have hbk9 := fun b hb => (own9.lt b hb).1; obtain ⟨c0, c1, c2⟩ := three_row K2.hp)
                      | (at_builtin; refine append_int rfl (.tmp 61) (.tmp 63) rfl wr.heap.size v9 j A rfl own8 w9.heap.size z rfl (heap_alloc_new w9 (.cells #[.int .i64 z] 3 (0, 0))) (by omega) (by rw [World.size_alloc]; omega) ?_; intro g10 k10 w10 own10 gr10 at10; have K9 := K2.grown gr10 (fun z hz => by have h8 := hbk9 z hz; omega); have hs10 := gr10.size; rw [World.size_alloc] at hs10; have hg10 := (own10.lt g10 rfl).1; clear K K2 c0 c1 c2 gr10 at10 hbk9; have K := K9; clear K9; obtain ⟨c0, c1, c2⟩ := three_row K.hp)
                      | (at_builtin; refine append_ints rfl (.tmp 65) (.tmp 69) rfl wr.heap.size _ (j + 1) (A ++ [z]) rfl own10 _ _ _ B rfl (HBK.out _ K.hb) (by omega) (by omega) ?_; intro v11 w11 own11 gr11; have K9 := K.grown gr11 (fun z hz => by have h8 : g10 = z := Option.some.inj hz; omega); rw [show j + 1 + 0 = j + 1 from by omega, List.append_assoc] at own11; obtain ⟨a9, c9, rfl, l9⟩ := own_ilist (F := fun b => wr.heap.size ≤ b) own11 (fun b hb => (own11.lt b hb).1); clear K c0 c1 c2 gr11 own11; have K := K9; clear K9)
                      | ((with_reducible refine store_slice_c 22 (.tmp 71) (.tmp 70) w.heap.size 0 a9 (j + 1) c9 ?_ ?_ ⟨_, (three_row K.hp).1⟩ (free_row_c K.hp) ints_info1 ?_); (· rfl); (· rfl); simp only [Act.put]; rw [setCell_eq_setRow _ _ _ _ _ _ _ K.hp]; simp only [List.setIfInBounds_toArray, List.set_cons_zero]; have l8 := l9.on (Same.row (r := w.heap.size) (fun h => by have h8 : wr.heap.size ≤ w.heap.size := h; omega) #[.slice a9 (j + 1) c9, .int .i64 h, .int .i64 k]); have K1 := K.put (XP := poRow a9 (j + 1) c9 h k) rfl; clear K l9; have K := K1; clear K1)
                      | ((with_reducible refine Plan.load_lit 24 (.tmp 3) (w.heap.size) ?_ K.hp Try.underlying24 ?_ ?_ ?_); (· rfl); (· rfl); (· exact po_info); simp only [Act.put, List.setIfInBounds_toArray, List.set_cons_zero, List.set_cons_succ])
                      | ((with_reducible refine Plan.store_lit 24 (.tmp 6) _ (w.heap.size + 2) ?_ K.hr ?_ ?_ ?_ ?_ ?_ ?_); rotate_left; (· rfl); (· rfl); (· exact po_info); (· rfl); (· simp [Value.oneCell']); simp only [Act.put]))
                    exact bodyPost_ret (Plan.results_cell_tmp (p := 6) (q := 7) rfl _ _ _ _ _ _ _ rfl (setRow_heap _ _ _ _ _ _ K.hr) Try.underlying24 rfl po_info) rfl ⟨_, _, _, _, _, rfl, ⟨rfl, rfl, by rw [HI.out]; exact (l8.on (Same.row (r := w.heap.size + 2) (fun h => by have h8 : wr.heap.size ≤ w.heap.size + 2 := h; omega) _)).mono (fun b _ h => .inr (by have h8 : wr.heap.size ≤ b := h; have := hbs.size; omega))⟩, below_setRow K.hb (show w.heap.size ≤ w.heap.size + 2 by omega) _⟩
      · rw [hva] at HV
        rw [hd] at HD
        rw [hh] at HH
        have r1 : putB V D ⟨L, h, k⟩ z = false := by simp [putB, hh]
        have r2 : putP V D ⟨L, h, k⟩ z = ⟨L, h, k⟩ := by unfold putP; rw [r1]; rfl
        rw [r1, r2]
        clear hl r1 r2 HINS HAT
        go_enter Try.func16, Try.ntmps16
        generalize hw0 : ((w.alloc (poRow a n c h k)).alloc (confRow cz cs cb cq cd ch)).alloc (poRow none 0 0 0 0) = w0 at *
        go_wp2_with (first
          | ((with_reducible refine Plan.load_lit 24 (.tmp 3) (w.heap.size) ?_ K.hp Try.underlying24 ?_ ?_ ?_); (· rfl); (· rfl); (· exact po_info); simp only [Act.put, List.setIfInBounds_toArray, List.set_cons_zero, List.set_cons_succ])
          | ((with_reducible refine Plan.load_lit 26 (.tmp 4) (w.heap.size + 1) ?_ K.hc Try.underlying26 ?_ ?_ ?_); (· rfl); (· rfl); (· exact conf_info); simp only [Act.put, List.setIfInBounds_toArray, List.set_cons_zero, List.set_cons_succ])
          | (go_at_call 24; ((with_reducible refine (HV.out _ K.hb).mono ?_); rintro r9 w1 ⟨rfl, h1⟩; have K1 := K.on h1; clear K hw0 h1; have K := K1; clear K1; obtain ⟨c0, c1, c2⟩ := three_row K.hp))
          | ((with_reducible refine load_lit_gc 26 (.tmp 4) (w.heap.size + 1) ?_ ?_ K.hc Try.underlying26 ?_ ?_ ?_); (· rfl); (· rfl); (· rfl); (· exact conf_info); simp only [Act.put, List.setIfInBounds_toArray, List.set_cons_zero, List.set_cons_succ])
          | (go_at_call 26; ((with_reducible refine (HD.out _).mono ?_); rintro r9 w2 ⟨rfl, h1⟩; have K1 := K.on h1; clear K c0 c1 c2 h1; have K := K1; clear K1; obtain ⟨c0, c1, c2⟩ := three_row K.hp))
          | (go_at_call 27; ((with_reducible refine (HH.out _ K.hb).mono ?_); rintro r9 w3 ⟨rfl, h1⟩; have K1 := K.on h1; clear K c0 c1 c2 h1; have K := K1; clear K1; obtain ⟨c0, c1, c2⟩ := three_row K.hp))
          | ((with_reducible refine Plan.store_lit 24 (.tmp 6) _ (w.heap.size + 2) ?_ K.hr ?_ ?_ ?_ ?_ ?_ ?_); rotate_left; (· rfl); (· rfl); (· exact po_info); (· rfl); (· simp [Value.oneCell']); simp only [Act.put]))
        exact bodyPost_ret (Plan.results_cell_tmp (p := 6) (q := 7) rfl _ _ _ _ _ _ _ rfl (setRow_heap _ _ _ _ _ _ K.hr) Try.underlying24 rfl po_info) rfl ⟨_, _, _, _, _, rfl, ⟨rfl, rfl, HEND.out _ K.hb _⟩, below_setRow K.hb (show w.heap.size ≤ w.heap.size + 2 by omega) _⟩
end Go.Proofs.Ytjdlekjikemdpaa.Ents
