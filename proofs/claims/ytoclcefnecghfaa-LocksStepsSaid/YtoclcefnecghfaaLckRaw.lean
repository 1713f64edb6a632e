
/- The walks of the law's awake and of LocksRaw, under the program's contracts. -/
import Derived.Test.YtoclcefnecghfaaLckAgree
namespace Go.Proofs.Ytoclcefnecghfaa.Ents
open Go.RowKit Plan EntMath CntMath LckMath
theorem aw_lck : newK 2 = [-1, -1] ∧ newKE 2 = 0 ∧ takeL [-1, -1] 1 1 = [-1, 1] ∧ takeB [-1, -1] 1 1 = true ∧ takeL [-1, 1] 1 2 = [-1, 1] ∧ takeB [-1, 1] 1 2 = false ∧ heldL [-1, 1] 1 = [1] ∧ freeK [-1, 1] 0 = true ∧ freeK [-1, 1] 1 = false := by decide
set_option maxHeartbeats 4000000 in
set_option maxRecDepth 20000 in
theorem lckAwake_any (H : LocksOk) (w : World) : Calls Try.prog 7 #[] w fun r w' => r = .returned (.bool true) ∧ Below w.heap.size w w' := by
  obtain ⟨e1, e2, e3, e4, e5, e6, e7, e8, e9⟩ := aw_lck
  have n1 := fun W => H.new 2 W
  have t1 := fun W (F : Nat → Prop) a n c (h : ∀ b, F b → b < W.heap.size) (l : IList W F a n c [-1, -1]) => H.take F _ 1 1 a n c W h l (by have := l.length; simp at this; omega)
  have t2 := fun W (F : Nat → Prop) a n c (h : ∀ b, F b → b < W.heap.size) (l : IList W F a n c [-1, 1]) => H.take F _ 1 2 a n c W h l (by have := l.length; simp at this; omega)
  have k1 := fun W (F : Nat → Prop) a n c (l : IList W F a n c [-1, 1]) => H.held F _ 1 a n c W l (by have := l.length; simp at this; omega)
  have f0 := fun W (F : Nat → Prop) a n c (l : IList W F a n c [-1, 1]) => H.free F _ 0 a n c W l (by have := l.length; simp at this; omega)
  have f1 := fun W (F : Nat → Prop) a n c (l : IList W F a n c [-1, 1]) => H.free F _ 1 a n c W l (by have := l.length; simp at this; omega)
  unfold LNewPost at n1
  unfold LckPost at t1 t2
  unfold HeldPost at k1
  simp only [e1, e2] at n1
  simp only [e3, e4] at t1
  simp only [e5, e6] at t2
  simp only [e7] at k1
  simp only [e8] at f0
  simp only [e9] at f1
  clear e1 e2 e3 e4 e5 e6 e7 e8 e9
  have N1 := Lib.hid n1
  have T1 := Lib.hid t1
  have T2 := Lib.hid t2
  have K1 := Lib.hid k1
  have F0 := Lib.hid f0
  have F1 := Lib.hid f1
  clear n1 t1 t2 k1 f0 f1
  go_enter Try.func7, Try.ntmps7
  go_wp2_with (first
    | (go_at_call 8; ((with_reducible refine (N1.out _).mono ?_); rintro r9 w5 ⟨a, n, c, rfl, lx, hb⟩; obtain rfl : n = 2 := lx.length.symm; clear N1; have lx := (lx.mono (G := fun b => b < w5.heap.size) (fun b h _ => h)).on (Same.alloc w5 (lckRow a 2 c)); have hX := heap_alloc_new w5 (lckRow a 2 c); have kX := hb.size; have hb := hb.alloc hb.size (lckRow a 2 c)))
    | (go_at_call 13; ((with_reducible refine (T1.out _ _ _ _ _ (fun b h => by simp only [World.size_alloc]; omega) lx).mono ?_); rintro r9 w6 ⟨a, n, c, rfl, lx, h9⟩; obtain rfl : n = 2 := lx.length.symm; clear T1; have lx := lx.mono (G := fun b => b ≠ w5.heap.size) (fun b _ h => by rcases h with h | h; (· omega); (· simp only [World.size_alloc] at h; omega)); have hb := hb.trans (h9.mono hb.size); have hX := e_on h9 hX (e_lt hX)))
    | (go_at_call 13; ((with_reducible refine (T2.out _ _ _ _ _ (fun b h => h.2) lx.cut).mono ?_); rintro r9 w7 ⟨m, n, d, rfl, lm, h9⟩; obtain rfl : n = 2 := lm.length.symm; clear T2; have lx := (lx.on (Same.below h9)).on (Same.alloc w7 (lckRow m 2 d)); have lm := lm.on (Same.alloc w7 (lckRow m 2 d)); have hb := hb.trans (h9.mono hb.size); have hb := hb.alloc hb.size (lckRow m 2 d); have hX := e_al (e_on h9 hX (e_lt hX)) (lckRow m 2 d)))
    | (go_at_call 15; ((with_reducible refine (K1.out _ _ _ _ _ lm).mono ?_); rintro r9 w8 ⟨h, n, k, rfl, lh, h9⟩; obtain rfl : n = 1 := lh.length.symm; clear K1; have lx := lx.on (Same.below h9); have hb := hb.trans (h9.mono hb.size); have hX := e_on h9 hX (e_lt hX)))
    | (go_at_call 18; ((with_reducible refine (F0.out _ _ _ _ _ lx).mono ?_); rintro r9 w9 ⟨rfl, h9⟩; clear F0; have lx := lx.on (Same.below h9); have lh := lh.cut.on (Same.below h9); have hb := hb.trans (h9.mono hb.size); have hX := e_on h9 hX (e_lt hX)))
    | (go_at_call 18; ((with_reducible refine (F1.out _ _ _ _ _ lx).mono ?_); rintro r9 w10 ⟨rfl, h9⟩; clear F1; have lh := lh.cut.on (Same.below h9); have hb := hb.trans (h9.mono hb.size); have hX := e_on h9 hX (e_lt hX); obtain ⟨x, z, rfl, hz, hc2⟩ := lh.at' 0 (by decide); obtain rfl := Option.some.inj hz; have hc3 : w10.cell? x = some (.int .i64 1) := hc2))
    | ((with_reducible refine Plan.store_lit 24 (.tmp 1) _ w5.heap.size ?_ hX ?_ ?_ ?_ ?_ ?_ ?_); rotate_left; (· rfl); (· rfl); (· exact lck_info); (· rfl); (· simp [Value.oneCell']); simp only [Act.put]; have hX := setRow_heap w6 w5.heap.size _ #[.slice a 2 c] _ _ hX; have hb := below_setRow hb kX #[.slice a 2 c]; have lx := lx.on (Same.row (r := w5.heap.size) (fun h => h rfl) #[.slice a 2 c]); generalize w6.setRow w5.heap.size #[.slice a 2 c] = w6 at *)
    | ((with_reducible refine Plan.load_lit 24 (.tmp 1) (w5.heap.size) ?_ hX Try.underlying24 ?_ ?_ ?_); (· rfl); (· rfl); (· exact lck_info); simp only [Act.put, List.setIfInBounds_toArray, List.set_cons_zero, List.set_cons_succ])
    | ((with_reducible refine load_lit_gc 24 (.tmp 1) (w5.heap.size) ?_ ?_ hX Try.underlying24 ?_ ?_ ?_); (· rfl); (· rfl); (· rfl); (· exact lck_info); simp only [Act.put, List.setIfInBounds_toArray, List.set_cons_zero, List.set_cons_succ]))
  go_ret
  exact ⟨rfl, hb⟩
set_option maxHeartbeats 4000000 in
set_option maxRecDepth 20000 in
theorem lckRaw_any (H : LocksOk) (F : Nat → Prop) (O : List Int) (s t : Int) (a : Option Addr) (n c : Nat) (w : World) (hl : IList w F a n c O) :
    Calls Try.prog 3 #[lckV a n c, .int .i64 s, .int .i64 t] w fun r w' => r = .returned (.bool true) ∧ Below w.heap.size w w' := by
  have hb := (Below.refl w.heap.size w).alloc (Nat.le_refl _) (lckRow a n c)
  have hx := heap_alloc_new w (lckRow a n c)
  have HW := Lib.hid (fun W => lckAwake_any H W)
  have hcp := hl.cap
  unfold maxLen at hcp
  by_cases hm : n ≤ 200
  · have HG := Lib.hid (fun W (h : Below w.heap.size w W) => lckAgree_any H _ O s t a n c W (hl.same h) (by omega))
    have d1 : decide ((200 : Int) < (n : Int)) = false := by simp; omega
    have d2 : decide (200 < n) = false := by simp; omega
    have d3 : ¬ (200 : Int) < (n : Int) := by omega
    clear hl
    go_enter Try.func3, Try.ntmps3
    generalize hw0 : w.alloc (lckRow a n c) = w0 at *
    have x0 := one_row hx
    go_wp2_with (first
      | ((with_reducible refine load_lit_gc 24 (.tmp 3) (w.heap.size) ?_ ?_ hx Try.underlying24 ?_ ?_ ?_); (· rfl); (· rfl); (· rfl); (· exact lck_info); simp only [Act.put, List.setIfInBounds_toArray, List.set_cons_zero, List.set_cons_succ])
      | (go_at_call 6; ((with_reducible refine (HG.out _ hb).mono ?_); rintro r9 w5 ⟨rfl, h9⟩; have hb := hb.trans (h9.mono hb.size)))
      | (go_at_call 7; ((with_reducible refine (HW.out _).mono ?_); rintro r9 w6 ⟨rfl, h9⟩; have hb := hb.trans (h9.mono hb.size))))
    go_ret
    exact ⟨rfl, hb⟩
  · have d1 : decide ((200 : Int) < (n : Int)) = true := by simp; omega
    have d2 : decide (200 < n) = true := by simp; omega
    have d3 : (200 : Int) < (n : Int) := by omega
    clear hl
    go_enter Try.func3, Try.ntmps3
    generalize hw0 : w.alloc (lckRow a n c) = w0 at *
    have x0 := one_row hx
    go_wp2_with (first
      | (go_at_call 7; ((with_reducible refine (HW.out _).mono ?_); rintro r9 w6 ⟨rfl, h9⟩; have hb := hb.trans (h9.mono hb.size))))
    go_ret
    exact ⟨rfl, hb⟩
end Go.Proofs.Ytoclcefnecghfaa.Ents
