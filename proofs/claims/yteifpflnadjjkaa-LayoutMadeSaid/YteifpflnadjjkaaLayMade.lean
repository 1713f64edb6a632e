
/- The walk of LayoutMade. -/
import Derived.Test.YteifpflnadjjkaaLayExact
import Derived.Test.YteifpflnadjjkaaBaseTree
namespace Go.Proofs.Yteifpflnadjjkaa
open Go.RowKit Plan LayMath
theorem mod_range (x m : Int) (hm : 1 ≤ m) : 0 ≤ x % m ∧ x % m < m := ⟨Int.emod_nonneg _ (by omega), Int.emod_lt_of_pos _ (by omega)⟩
set_option maxHeartbeats 8000000 in
set_option maxRecDepth 20000 in
theorem layMade_any (n0 n1 n2 n3 n4 n5 k0 k1 : Int) (w : World) :
    Calls Try.prog 4 #[.agg #[.int .i64 n0, .int .i64 n1, .int .i64 n2, .int .i64 n3, .int .i64 n4, .int .i64 n5], .int .i64 k0, .int .i64 k1] w fun e w' => e = .returned (.bool true) ∧ Below w.heap.size w w' := by
  have hA := (Below.refl w.heap.size w).alloc (Nat.le_refl _) (.cells #[.int .i64 n0, .int .i64 n1, .int .i64 n2, .int .i64 n3, .int .i64 n4, .int .i64 n5] 36)
  have hx0 := heap_alloc_new w (.cells #[.int .i64 n0, .int .i64 n1, .int .i64 n2, .int .i64 n3, .int .i64 n4, .int .i64 n5] 36)
  have hm0 := mod_any n0 35 (by decide) (by decide)
  have hm1 := mod_any n1 67 (by decide) (by decide)
  have hm2 := mod_any n2 131 (by decide) (by decide)
  have hm3 := mod_any n3 6 (by decide) (by decide)
  have hm4 := mod_any n4 10 (by decide) (by decide)
  have hm5 := mod_any n5 10 (by decide) (by decide)
  have hm6 := mod_any k0 4 (by decide) (by decide)
  have hm7 := mod_any k1 36 (by decide) (by decide)
  obtain ⟨r6, r6'⟩ := mod_range k0 4 (by decide)
  obtain ⟨r7, r7'⟩ := mod_range k1 36 (by decide)
  generalize n0 % 35 = z at hm0
  generalize n1 % 67 = s at hm1
  generalize n2 % 131 = b at hm2
  generalize n3 % 6 = q at hm3
  generalize n4 % 10 = d at hm4
  generalize n5 % 10 = h at hm5
  generalize k0 % 4 = k at hm6 r6 r6'
  generalize k1 % 36 = n at hm7 r7 r7'
  have ho := layOf_any z s b q d h
  have ho2 := layRefOf_any z s b q d h
  have hc := layCheck_any z s b q d h
  have hc2 := layRefCheck_any z s b q d h
  have hs := slots_any z s b q d h (k - 1)
  have hs2 := refSlots_any z s b q d h (k - 1)
  have hd := isData_any z s b q d h (n - 1)
  have hd2 := refIsData_any z s b q d h (n - 1)
  have hL := slotsL_length z s b q d h (k - 1)
  obtain ⟨x1, x2, x3, x4, hx, -⟩ := layE_agg z s b q d h
  unfold ofV at ho ho2
  rw [hx] at ho ho2
  clear hx
  unfold SlotPost at hs hs2
  unfold confV at *
  generalize errN z s b q d h = E at *
  generalize slotsL z s b q d h (k - 1) = SL at *
  generalize isN z s b q d h (n - 1) = IN at *
  have HO := Lib.hid ho
  have HO2 := Lib.hid ho2
  have HC := Lib.hid hc
  have HC2 := Lib.hid hc2
  have HS := Lib.hid hs
  have HS2 := Lib.hid hs2
  have HD := Lib.hid hd
  have HD2 := Lib.hid hd2
  have HL := Lib.hid hL
  have HM0 := Lib.hid hm0
  have HM1 := Lib.hid hm1
  have HM2 := Lib.hid hm2
  have HM3 := Lib.hid hm3
  have HM4 := Lib.hid hm4
  have HM5 := Lib.hid hm5
  have HM6 := Lib.hid hm6
  have HM7 := Lib.hid hm7
  clear ho ho2 hc hc2 hs hs2 hd hd2 hL hm0 hm1 hm2 hm3 hm4 hm5 hm6 hm7
  go_enter Try.func4, Try.ntmps4
  generalize hw0 : w.alloc (.cells #[.int .i64 n0, .int .i64 n1, .int .i64 n2, .int .i64 n3, .int .i64 n4, .int .i64 n5] 36) = w0 at *
  obtain ⟨d0, d1, d2, d3, d4, d5⟩ := conf6 hx0
  go_wp2_with fail
  have hl0 := lay_lt hx0
  have hS0 : Held w0.heap.size w0 w0.drew := held_same
  have hSa : Held w0.heap.size w0 (w0.drew.alloc (.cells #[.int .i64 0, .int .i64 0, .int .i64 0, .int .i64 0, .int .i64 0, .int .i64 0] 23)) := held_alloc (Nat.le_refl _) hS0 _
  have hv1 := heap_alloc_new w0.drew (.cells #[.int .i64 0, .int .i64 0, .int .i64 0, .int .i64 0, .int .i64 0, .int .i64 0] 23)
  have hSb : Held w0.heap.size w0 ((w0.drew.alloc (.cells #[.int .i64 0, .int .i64 0, .int .i64 0, .int .i64 0, .int .i64 0, .int .i64 0] 23)).setRow w0.heap.size #[.int .i64 z, .int .i64 s, .int .i64 b, .int .i64 q, .int .i64 d, .int .i64 h]) := held_row hSa (Nat.le_refl _) _
  have hv9 := setRow_heap _ _ _ #[.int .i64 z, .int .i64 s, .int .i64 b, .int .i64 q, .int .i64 d, .int .i64 h] _ _ hv1
  refine Tree.start (Held w0.heap.size w0) (.take 0 (.take 1 (.take 3 (.take 4 (.take 6 (.take 7 (.take 9 (.take 10 (.take 12 (.take 13 (.take 15 (.take 16 (.fork 2 (.fork 5 (.fork 8 (.fork 11 (.fork 14 (.fork 17 (.take 18 (.only 19 (.only 20 (.done)))) 19 (.only 17 (.take 18 (.only 20 (.done))))) 19 (.only 14 (.only 17 (.take 18 (.only 20 (.done)))))) 19 (.only 11 (.only 14 (.only 17 (.take 18 (.only 20 (.done))))))) 19 (.only 8 (.only 11 (.only 14 (.only 17 (.take 18 (.only 20 (.done)))))))) 19 (.only 5 (.only 8 (.only 11 (.only 14 (.only 17 (.take 18 (.only 20 (.done))))))))) 19 (.only 2 (.only 5 (.only 8 (.only 11 (.only 14 (.only 17 (.take 18 (.only 20 (.done)))))))))))))))))))))) (by kernel_rfl) (by kernel_rfl) (by kernel_rfl) (by kernel_rfl) hS0 ?_
  simp only [Tree.T.map, List.getElem?_toArray, List.getElem?_cons_zero, List.getElem?_cons_succ]
  repeat (first | (refine Tree.take ?_ (by rfl) ?_ ?_; rotate_left; (· rintro w9 ⟨hS9, -⟩; go_simp; (try rw [if_neg (by omega)]); all_goals (with_reducible rfl)); simp only [Act.put, List.setIfInBounds_toArray, List.set_cons_zero, List.set_cons_succ]))
  refine Tree.fork (by rfl) (by rfl) ?_ ?_
  refine Tree.wp_call 17 _ ?_ (HM0.out _) ?_
  · go_simp
  rintro e wm ⟨rfl, rfl⟩
  refine ⟨_, rfl, hS0, ?_⟩
  simp only [Act.put, List.setIfInBounds_toArray, List.set_cons_zero, List.set_cons_succ]
  refine Tree.fork (by rfl) (by rfl) ?_ ?_
  refine Tree.wp_call 17 _ ?_ (HM1.out _) ?_
  · go_simp
  rintro e wm ⟨rfl, rfl⟩
  refine ⟨_, rfl, hS0, ?_⟩
  simp only [Act.put, List.setIfInBounds_toArray, List.set_cons_zero, List.set_cons_succ]
  refine Tree.fork (by rfl) (by rfl) ?_ ?_
  refine Tree.wp_call 17 _ ?_ (HM2.out _) ?_
  · go_simp
  rintro e wm ⟨rfl, rfl⟩
  refine ⟨_, rfl, hS0, ?_⟩
  simp only [Act.put, List.setIfInBounds_toArray, List.set_cons_zero, List.set_cons_succ]
  refine Tree.fork (by rfl) (by rfl) ?_ ?_
  refine Tree.wp_call 17 _ ?_ (HM3.out _) ?_
  · go_simp
  rintro e wm ⟨rfl, rfl⟩
  refine ⟨_, rfl, hS0, ?_⟩
  simp only [Act.put, List.setIfInBounds_toArray, List.set_cons_zero, List.set_cons_succ]
  refine Tree.fork (by rfl) (by rfl) ?_ ?_
  refine Tree.wp_call 17 _ ?_ (HM4.out _) ?_
  · go_simp
  rintro e wm ⟨rfl, rfl⟩
  refine ⟨_, rfl, hS0, ?_⟩
  simp only [Act.put, List.setIfInBounds_toArray, List.set_cons_zero, List.set_cons_succ]
  refine Tree.fork (by rfl) (by rfl) ?_ ?_
  refine Tree.wp_call 17 _ ?_ (HM5.out _) ?_
  · go_simp
  rintro e wm ⟨rfl, rfl⟩
  refine ⟨_, rfl, hS0, ?_⟩
  simp only [Act.put, List.setIfInBounds_toArray, List.set_cons_zero, List.set_cons_succ]
  repeat (first | (refine Tree.take ?_ (by rfl) ?_ ?_; rotate_left; (· rintro w9 ⟨hS9, -⟩; go_simp; (try rw [if_neg (by omega)]); all_goals (with_reducible rfl)); simp only [Act.put, List.setIfInBounds_toArray, List.set_cons_zero, List.set_cons_succ]))
  refine Tree.only (by rfl) ?_
  refine Tree.wp_make (.pointer (some ⟨w0.heap.size, 0, none⟩)) (w0.drew.alloc (.cells #[.int .i64 0, .int .i64 0, .int .i64 0, .int .i64 0, .int .i64 0, .int .i64 0] 23)) ?_ ?_
  · go_simp
  refine ⟨hSa, ?_⟩
  simp only [Act.put, List.setIfInBounds_toArray, List.set_cons_zero, List.set_cons_succ]
  refine Tree.only (by rfl) (wp_store_row 23 _ _ rfl w0.heap.size #[.int .i64 z, .int .i64 s, .int .i64 b, .int .i64 q, .int .i64 d, .int .i64 h] (by rfl) (by rfl) 23 _ hv1 conf_info rfl (by simp [Value.oneCell']) ⟨hSb, ?_⟩)
  simp only [Act.put]
  refine Tree.ends ?_
  rotate_left
  refine Tree.wp_make (.pointer (some ⟨w0.heap.size, 0, none⟩)) (w0.drew.alloc (.cells #[.int .i64 0, .int .i64 0, .int .i64 0, .int .i64 0, .int .i64 0, .int .i64 0] 23)) ?_ ?_
  · go_simp
  refine ⟨hSa, ?_⟩
  simp only [Act.put, List.setIfInBounds_toArray, List.set_cons_zero, List.set_cons_succ]
  refine Tree.only (by rfl) ?_
  refine Tree.wp_call 17 _ ?_ (HM5.out _) ?_
  · go_simp
  rintro e wm ⟨rfl, rfl⟩
  refine ⟨_, rfl, hSa, ?_⟩
  simp only [Act.put, List.setIfInBounds_toArray, List.set_cons_zero, List.set_cons_succ]
  repeat (first | (refine Tree.take ?_ (by rfl) ?_ ?_; rotate_left; (· rintro w9 ⟨hS9, -⟩; go_simp; (try rw [if_neg (by omega)]); all_goals (with_reducible rfl)); simp only [Act.put, List.setIfInBounds_toArray, List.set_cons_zero, List.set_cons_succ]))
  refine Tree.only (by rfl) (wp_store_row 23 _ _ rfl w0.heap.size #[.int .i64 z, .int .i64 s, .int .i64 b, .int .i64 q, .int .i64 d, .int .i64 h] (by rfl) (by rfl) 23 _ hv1 conf_info rfl (by simp [Value.oneCell']) ⟨hSb, ?_⟩)
  simp only [Act.put]
  refine Tree.ends ?_
  rotate_left
  refine Tree.wp_make (.pointer (some ⟨w0.heap.size, 0, none⟩)) (w0.drew.alloc (.cells #[.int .i64 0, .int .i64 0, .int .i64 0, .int .i64 0, .int .i64 0, .int .i64 0] 23)) ?_ ?_
  · go_simp
  refine ⟨hSa, ?_⟩
  simp only [Act.put, List.setIfInBounds_toArray, List.set_cons_zero, List.set_cons_succ]
  refine Tree.only (by rfl) ?_
  refine Tree.wp_call 17 _ ?_ (HM4.out _) ?_
  · go_simp
  rintro e wm ⟨rfl, rfl⟩
  refine ⟨_, rfl, hSa, ?_⟩
  simp only [Act.put, List.setIfInBounds_toArray, List.set_cons_zero, List.set_cons_succ]
  refine Tree.only (by rfl) ?_
  refine Tree.wp_call 17 _ ?_ (HM5.out _) ?_
  · go_simp
  rintro e wm ⟨rfl, rfl⟩
  refine ⟨_, rfl, hSa, ?_⟩
  simp only [Act.put, List.setIfInBounds_toArray, List.set_cons_zero, List.set_cons_succ]
  repeat (first | (refine Tree.take ?_ (by rfl) ?_ ?_; rotate_left; (· rintro w9 ⟨hS9, -⟩; go_simp; (try rw [if_neg (by omega)]); all_goals (with_reducible rfl)); simp only [Act.put, List.setIfInBounds_toArray, List.set_cons_zero, List.set_cons_succ]))
  refine Tree.only (by rfl) (wp_store_row 23 _ _ rfl w0.heap.size #[.int .i64 z, .int .i64 s, .int .i64 b, .int .i64 q, .int .i64 d, .int .i64 h] (by rfl) (by rfl) 23 _ hv1 conf_info rfl (by simp [Value.oneCell']) ⟨hSb, ?_⟩)
  simp only [Act.put]
  refine Tree.ends ?_
  rotate_left
  refine Tree.wp_make (.pointer (some ⟨w0.heap.size, 0, none⟩)) (w0.drew.alloc (.cells #[.int .i64 0, .int .i64 0, .int .i64 0, .int .i64 0, .int .i64 0, .int .i64 0] 23)) ?_ ?_
  · go_simp
  refine ⟨hSa, ?_⟩
  simp only [Act.put, List.setIfInBounds_toArray, List.set_cons_zero, List.set_cons_succ]
  refine Tree.only (by rfl) ?_
  refine Tree.wp_call 17 _ ?_ (HM3.out _) ?_
  · go_simp
  rintro e wm ⟨rfl, rfl⟩
  refine ⟨_, rfl, hSa, ?_⟩
  simp only [Act.put, List.setIfInBounds_toArray, List.set_cons_zero, List.set_cons_succ]
  refine Tree.only (by rfl) ?_
  refine Tree.wp_call 17 _ ?_ (HM4.out _) ?_
  · go_simp
  rintro e wm ⟨rfl, rfl⟩
  refine ⟨_, rfl, hSa, ?_⟩
  simp only [Act.put, List.setIfInBounds_toArray, List.set_cons_zero, List.set_cons_succ]
  refine Tree.only (by rfl) ?_
  refine Tree.wp_call 17 _ ?_ (HM5.out _) ?_
  · go_simp
  rintro e wm ⟨rfl, rfl⟩
  refine ⟨_, rfl, hSa, ?_⟩
  simp only [Act.put, List.setIfInBounds_toArray, List.set_cons_zero, List.set_cons_succ]
  repeat (first | (refine Tree.take ?_ (by rfl) ?_ ?_; rotate_left; (· rintro w9 ⟨hS9, -⟩; go_simp; (try rw [if_neg (by omega)]); all_goals (with_reducible rfl)); simp only [Act.put, List.setIfInBounds_toArray, List.set_cons_zero, List.set_cons_succ]))
  refine Tree.only (by rfl) (wp_store_row 23 _ _ rfl w0.heap.size #[.int .i64 z, .int .i64 s, .int .i64 b, .int .i64 q, .int .i64 d, .int .i64 h] (by rfl) (by rfl) 23 _ hv1 conf_info rfl (by simp [Value.oneCell']) ⟨hSb, ?_⟩)
  simp only [Act.put]
  refine Tree.ends ?_
  rotate_left
  refine Tree.wp_make (.pointer (some ⟨w0.heap.size, 0, none⟩)) (w0.drew.alloc (.cells #[.int .i64 0, .int .i64 0, .int .i64 0, .int .i64 0, .int .i64 0, .int .i64 0] 23)) ?_ ?_
  · go_simp
  refine ⟨hSa, ?_⟩
  simp only [Act.put, List.setIfInBounds_toArray, List.set_cons_zero, List.set_cons_succ]
  refine Tree.only (by rfl) ?_
  refine Tree.wp_call 17 _ ?_ (HM2.out _) ?_
  · go_simp
  rintro e wm ⟨rfl, rfl⟩
  refine ⟨_, rfl, hSa, ?_⟩
  simp only [Act.put, List.setIfInBounds_toArray, List.set_cons_zero, List.set_cons_succ]
  refine Tree.only (by rfl) ?_
  refine Tree.wp_call 17 _ ?_ (HM3.out _) ?_
  · go_simp
  rintro e wm ⟨rfl, rfl⟩
  refine ⟨_, rfl, hSa, ?_⟩
  simp only [Act.put, List.setIfInBounds_toArray, List.set_cons_zero, List.set_cons_succ]
  refine Tree.only (by rfl) ?_
  refine Tree.wp_call 17 _ ?_ (HM4.out _) ?_
  · go_simp
  rintro e wm ⟨rfl, rfl⟩
  refine ⟨_, rfl, hSa, ?_⟩
  simp only [Act.put, List.setIfInBounds_toArray, List.set_cons_zero, List.set_cons_succ]
  refine Tree.only (by rfl) ?_
  refine Tree.wp_call 17 _ ?_ (HM5.out _) ?_
  · go_simp
  rintro e wm ⟨rfl, rfl⟩
  refine ⟨_, rfl, hSa, ?_⟩
  simp only [Act.put, List.setIfInBounds_toArray, List.set_cons_zero, List.set_cons_succ]
  repeat (first | (refine Tree.take ?_ (by rfl) ?_ ?_; rotate_left; (· rintro w9 ⟨hS9, -⟩; go_simp; (try rw [if_neg (by omega)]); all_goals (with_reducible rfl)); simp only [Act.put, List.setIfInBounds_toArray, List.set_cons_zero, List.set_cons_succ]))
  refine Tree.only (by rfl) (wp_store_row 23 _ _ rfl w0.heap.size #[.int .i64 z, .int .i64 s, .int .i64 b, .int .i64 q, .int .i64 d, .int .i64 h] (by rfl) (by rfl) 23 _ hv1 conf_info rfl (by simp [Value.oneCell']) ⟨hSb, ?_⟩)
  simp only [Act.put]
  refine Tree.ends ?_
  rotate_left
  refine Tree.wp_make (.pointer (some ⟨w0.heap.size, 0, none⟩)) (w0.drew.alloc (.cells #[.int .i64 0, .int .i64 0, .int .i64 0, .int .i64 0, .int .i64 0, .int .i64 0] 23)) ?_ ?_
  · go_simp
  refine ⟨hSa, ?_⟩
  simp only [Act.put, List.setIfInBounds_toArray, List.set_cons_zero, List.set_cons_succ]
  refine Tree.only (by rfl) ?_
  refine Tree.wp_call 17 _ ?_ (HM1.out _) ?_
  · go_simp
  rintro e wm ⟨rfl, rfl⟩
  refine ⟨_, rfl, hSa, ?_⟩
  simp only [Act.put, List.setIfInBounds_toArray, List.set_cons_zero, List.set_cons_succ]
  refine Tree.only (by rfl) ?_
  refine Tree.wp_call 17 _ ?_ (HM2.out _) ?_
  · go_simp
  rintro e wm ⟨rfl, rfl⟩
  refine ⟨_, rfl, hSa, ?_⟩
  simp only [Act.put, List.setIfInBounds_toArray, List.set_cons_zero, List.set_cons_succ]
  refine Tree.only (by rfl) ?_
  refine Tree.wp_call 17 _ ?_ (HM3.out _) ?_
  · go_simp
  rintro e wm ⟨rfl, rfl⟩
  refine ⟨_, rfl, hSa, ?_⟩
  simp only [Act.put, List.setIfInBounds_toArray, List.set_cons_zero, List.set_cons_succ]
  refine Tree.only (by rfl) ?_
  refine Tree.wp_call 17 _ ?_ (HM4.out _) ?_
  · go_simp
  rintro e wm ⟨rfl, rfl⟩
  refine ⟨_, rfl, hSa, ?_⟩
  simp only [Act.put, List.setIfInBounds_toArray, List.set_cons_zero, List.set_cons_succ]
  refine Tree.only (by rfl) ?_
  refine Tree.wp_call 17 _ ?_ (HM5.out _) ?_
  · go_simp
  rintro e wm ⟨rfl, rfl⟩
  refine ⟨_, rfl, hSa, ?_⟩
  simp only [Act.put, List.setIfInBounds_toArray, List.set_cons_zero, List.set_cons_succ]
  repeat (first | (refine Tree.take ?_ (by rfl) ?_ ?_; rotate_left; (· rintro w9 ⟨hS9, -⟩; go_simp; (try rw [if_neg (by omega)]); all_goals (with_reducible rfl)); simp only [Act.put, List.setIfInBounds_toArray, List.set_cons_zero, List.set_cons_succ]))
  refine Tree.only (by rfl) (wp_store_row 23 _ _ rfl w0.heap.size #[.int .i64 z, .int .i64 s, .int .i64 b, .int .i64 q, .int .i64 d, .int .i64 h] (by rfl) (by rfl) 23 _ hv1 conf_info rfl (by simp [Value.oneCell']) ⟨hSb, ?_⟩)
  simp only [Act.put]
  refine Tree.ends ?_
  rotate_left
  refine Tree.wp_make (.pointer (some ⟨w0.heap.size, 0, none⟩)) (w0.drew.alloc (.cells #[.int .i64 0, .int .i64 0, .int .i64 0, .int .i64 0, .int .i64 0, .int .i64 0] 23)) ?_ ?_
  · go_simp
  refine ⟨hSa, ?_⟩
  simp only [Act.put, List.setIfInBounds_toArray, List.set_cons_zero, List.set_cons_succ]
  refine Tree.only (by rfl) ?_
  refine Tree.wp_call 17 _ ?_ (HM0.out _) ?_
  · go_simp
  rintro e wm ⟨rfl, rfl⟩
  refine ⟨_, rfl, hSa, ?_⟩
  simp only [Act.put, List.setIfInBounds_toArray, List.set_cons_zero, List.set_cons_succ]
  refine Tree.only (by rfl) ?_
  refine Tree.wp_call 17 _ ?_ (HM1.out _) ?_
  · go_simp
  rintro e wm ⟨rfl, rfl⟩
  refine ⟨_, rfl, hSa, ?_⟩
  simp only [Act.put, List.setIfInBounds_toArray, List.set_cons_zero, List.set_cons_succ]
  refine Tree.only (by rfl) ?_
  refine Tree.wp_call 17 _ ?_ (HM2.out _) ?_
  · go_simp
  rintro e wm ⟨rfl, rfl⟩
  refine ⟨_, rfl, hSa, ?_⟩
  simp only [Act.put, List.setIfInBounds_toArray, List.set_cons_zero, List.set_cons_succ]
  refine Tree.only (by rfl) ?_
  refine Tree.wp_call 17 _ ?_ (HM3.out _) ?_
  · go_simp
  rintro e wm ⟨rfl, rfl⟩
  refine ⟨_, rfl, hSa, ?_⟩
  simp only [Act.put, List.setIfInBounds_toArray, List.set_cons_zero, List.set_cons_succ]
  refine Tree.only (by rfl) ?_
  refine Tree.wp_call 17 _ ?_ (HM4.out _) ?_
  · go_simp
  rintro e wm ⟨rfl, rfl⟩
  refine ⟨_, rfl, hSa, ?_⟩
  simp only [Act.put, List.setIfInBounds_toArray, List.set_cons_zero, List.set_cons_succ]
  refine Tree.only (by rfl) ?_
  refine Tree.wp_call 17 _ ?_ (HM5.out _) ?_
  · go_simp
  rintro e wm ⟨rfl, rfl⟩
  refine ⟨_, rfl, hSa, ?_⟩
  simp only [Act.put, List.setIfInBounds_toArray, List.set_cons_zero, List.set_cons_succ]
  repeat (first | (refine Tree.take ?_ (by rfl) ?_ ?_; rotate_left; (· rintro w9 ⟨hS9, -⟩; go_simp; (try rw [if_neg (by omega)]); all_goals (with_reducible rfl)); simp only [Act.put, List.setIfInBounds_toArray, List.set_cons_zero, List.set_cons_succ]))
  refine Tree.only (by rfl) (wp_store_row 23 _ _ rfl w0.heap.size #[.int .i64 z, .int .i64 s, .int .i64 b, .int .i64 q, .int .i64 d, .int .i64 h] (by rfl) (by rfl) 23 _ hv1 conf_info rfl (by simp [Value.oneCell']) ⟨hSb, ?_⟩)
  simp only [Act.put]
  refine Tree.ends ?_
  rotate_left
  all_goals
    have b9 : Below w.heap.size w ((w0.drew.alloc (.cells #[.int .i64 0, .int .i64 0, .int .i64 0, .int .i64 0, .int .i64 0, .int .i64 0] 23)).setRow w0.heap.size #[.int .i64 z, .int .i64 s, .int .i64 b, .int .i64 q, .int .i64 d, .int .i64 h]) := hA.trans (hSb.2.mono hA.size)
    have hx1 : ((w0.drew.alloc (.cells #[.int .i64 0, .int .i64 0, .int .i64 0, .int .i64 0, .int .i64 0, .int .i64 0] 23)).setRow w0.heap.size #[.int .i64 z, .int .i64 s, .int .i64 b, .int .i64 q, .int .i64 d, .int .i64 h]).heap[w0.heap.size]? = some (confRow z s b q d h) := hv9
    clear hS0 hSa hSb hv1 hv9 d0 d1 d2 d3 d4 d5
    generalize (w0.drew.alloc (.cells #[.int .i64 0, .int .i64 0, .int .i64 0, .int .i64 0, .int .i64 0, .int .i64 0] 23)).setRow w0.heap.size #[.int .i64 z, .int .i64 s, .int .i64 b, .int .i64 q, .int .i64 d, .int .i64 h] = W1 at b9 hx1 ⊢
    have hg0 : w0.heap.size < W1.heap.size := lay_lt hx1
    generalize w0.heap.size = G0 at hx1 hg0 ⊢
    clear hx0 hA hl0
    obtain ⟨d0, d1, d2, d3, d4, d5⟩ := conf6 hx1
    go_wp2_with (first
      | (go_at_call 7; ((with_reducible refine (HO.out _).mono ?_); rintro e w1 ⟨rfl, hb1⟩; have hx2 := lay_al (lay_on hb1 hx1 (lay_lt hx1)) (layRow x1 x2 x3 x4); have hy2 := heap_alloc_new w1 (layRow x1 x2 x3 x4); have b1 := (b9.trans (hb1.mono b9.size)).alloc (b9.trans (hb1.mono b9.size)).size (layRow x1 x2 x3 x4); clear d0 d1 d2 d3 d4 d5; obtain ⟨d0, d1, d2, d3, d4, d5⟩ := conf6 hx2))
      | (go_at_call 8; ((with_reducible refine (HO2.out _).mono ?_); rintro e w2 ⟨rfl, hb2⟩; have hx3 := lay_al (lay_on hb2 hx2 (lay_lt hx2)) (layRow x1 x2 x3 x4); have hy3 := lay_al (lay_on hb2 hy2 (lay_lt hy2)) (layRow x1 x2 x3 x4); have hz3 := heap_alloc_new w2 (layRow x1 x2 x3 x4); have b2 := (b1.trans (hb2.mono b1.size)).alloc (b1.trans (hb2.mono b1.size)).size (layRow x1 x2 x3 x4); clear d0 d1 d2 d3 d4 d5))
      | (go_at_call 17; ((with_reducible refine (HM6.out _).mono ?_); rintro e w3 ⟨rfl, rfl⟩))
      | (go_at_call 17; ((with_reducible refine (HM7.out _).mono ?_); rintro e w4 ⟨rfl, rfl⟩)))
    generalize w2.alloc (.cells #[.int .i64 x1, .int .i64 x2, .int .i64 x3, .int .i64 x4] 25) = W at *
    have l1 := lay_lt hx3
    have l2 := lay_lt hy3
    have l3 := lay_lt hz3
    obtain ⟨d0, d1, d2, d3, d4, d5⟩ := conf6 hx3
    obtain ⟨-, e0, e1, e2, e3⟩ := lay4 hy3
    obtain ⟨-, f0, f1, f2, f3⟩ := lay4 hz3
    generalize w1.heap.size = G1 at *
    generalize w2.heap.size = G2 at *
    clear hx3 hy3 hz3
    have hS0 : Held W.heap.size W W.drew := held_same
    refine Plan.start (Held W.heap.size W) [(0, false), (1, true), (2, true), (4, true), (3, false), (5, false), (6, true), (7, true), (8, true), (9, true), (10, true), (11, true), (12, true), (13, true), (14, true), (15, true), (16, true), (17, true), (18, true), (19, true), (20, true), (22, true), (23, true), (21, false), (24, false), (25, false), (26, true), (27, true), (28, true), (29, true), (31, true), (32, true), (30, false), (33, false), (34, true), (35, true), (36, true)] (by kernel_rfl) (by kernel_rfl) (by kernel_rfl) (by kernel_rfl) hS0 ?_
    simp only [List.map_cons, List.map_nil, List.getElem?_toArray, List.getElem?_cons_zero, List.getElem?_cons_succ]
    refine Plan.call (by rfl) 9 _ ?_ (awake_lay _) ?_
    · go_simp
    rintro e v1 ⟨rfl, hbv1⟩
    have hSv1 := held_call (Nat.le_refl _) hS0 hbv1
    refine ⟨_, rfl, hSv1, ?_⟩
    simp only [Act.put, List.setIfInBounds_toArray, List.set_cons_zero, List.set_cons_succ]
    repeat (first | (refine Plan.take ?_ (by rfl) ?_ ?_; rotate_left; (· rintro w9 ⟨hS9, -⟩; go_simp; (try rw [if_neg (by omega)]); all_goals (with_reducible rfl)); simp only [Act.put, List.setIfInBounds_toArray, List.set_cons_zero, List.set_cons_succ]) | (refine Plan.pass (by rfl) ?_; simp only [Act.put, List.setIfInBounds_toArray, List.set_cons_zero, List.set_cons_succ]))
    refine Plan.call (by rfl) 10 _ ?_ (HC.out _) ?_
    · go_simp
    rintro e v2 ⟨rfl, hbv2⟩
    have hSv2 := held_call (Nat.le_refl _) hSv1 hbv2
    refine ⟨_, rfl, hSv2, ?_⟩
    simp only [Act.put, List.setIfInBounds_toArray, List.set_cons_zero, List.set_cons_succ]
    repeat (first | (refine Plan.take ?_ (by rfl) ?_ ?_; rotate_left; (· rintro w9 ⟨hS9, -⟩; go_simp; (try rw [if_neg (by omega)]); all_goals (with_reducible rfl)); simp only [Act.put, List.setIfInBounds_toArray, List.set_cons_zero, List.set_cons_succ]) | (refine Plan.pass (by rfl) ?_; simp only [Act.put, List.setIfInBounds_toArray, List.set_cons_zero, List.set_cons_succ]))
    refine Plan.call (by rfl) 11 _ ?_ (HC2.out _) ?_
    · go_simp
    rintro e v3 ⟨rfl, hbv3⟩
    have hSv3 := held_call (Nat.le_refl _) hSv2 hbv3
    refine ⟨_, rfl, hSv3, ?_⟩
    simp only [Act.put, List.setIfInBounds_toArray, List.set_cons_zero, List.set_cons_succ]
    repeat (first | (refine Plan.take ?_ (by rfl) ?_ ?_; rotate_left; (· rintro w9 ⟨hS9, -⟩; go_simp; (try rw [if_neg (by omega)]); all_goals (with_reducible rfl)); simp only [Act.put, List.setIfInBounds_toArray, List.set_cons_zero, List.set_cons_succ]) | (refine Plan.pass (by rfl) ?_; simp only [Act.put, List.setIfInBounds_toArray, List.set_cons_zero, List.set_cons_succ]))
    refine Plan.call (by rfl) 13 _ ?_ (HS.out _) ?_
    · go_simp
    rintro e v4 ⟨la, rfl, hla, hbv4⟩
    have hSv4 := held_call (Nat.le_refl _) hSv3 hbv4
    refine ⟨_, rfl, hSv4, ?_⟩
    simp only [Act.put, List.setIfInBounds_toArray, List.set_cons_zero, List.set_cons_succ]
    repeat (first | (refine Plan.take ?_ (by rfl) ?_ ?_; rotate_left; (· rintro w9 ⟨hS9, -⟩; go_simp; (try rw [if_neg (by omega)]); all_goals (with_reducible rfl)); simp only [Act.put, List.setIfInBounds_toArray, List.set_cons_zero, List.set_cons_succ]) | (refine Plan.pass (by rfl) ?_; simp only [Act.put, List.setIfInBounds_toArray, List.set_cons_zero, List.set_cons_succ]))
    refine Plan.call (by rfl) 14 _ ?_ (HS2.out _) ?_
    · go_simp
    rintro e v5 ⟨lb, rfl, hlb, hbv5⟩
    have hSv5 := held_call (Nat.le_refl _) hSv4 hbv5
    have hla5 := hla.on hbv5
    refine ⟨_, rfl, hSv5, ?_⟩
    simp only [Act.put, List.setIfInBounds_toArray, List.set_cons_zero, List.set_cons_succ]
    repeat (first | (refine Plan.take ?_ (by rfl) ?_ ?_; rotate_left; (· rintro w9 ⟨hS9, -⟩; go_simp; (try rw [if_neg (by omega)]); all_goals (with_reducible rfl)); simp only [Act.put, List.setIfInBounds_toArray, List.set_cons_zero, List.set_cons_succ]) | (refine Plan.pass (by rfl) ?_; simp only [Act.put, List.setIfInBounds_toArray, List.set_cons_zero, List.set_cons_succ]))
    refine Plan.call (by rfl) 12 _ ?_ (laySame_any SL la lb v5 HL.out hla5 hlb) ?_
    · go_simp
    rintro e v6 ⟨rfl, hbv6⟩
    have hSv6 := held_call (Nat.le_refl _) hSv5 hbv6
    refine ⟨_, rfl, hSv6, ?_⟩
    simp only [Act.put, List.setIfInBounds_toArray, List.set_cons_zero, List.set_cons_succ]
    repeat (first | (refine Plan.take ?_ (by rfl) ?_ ?_; rotate_left; (· rintro w9 ⟨hS9, -⟩; go_simp; (try rw [if_neg (by omega)]); all_goals (with_reducible rfl)); simp only [Act.put, List.setIfInBounds_toArray, List.set_cons_zero, List.set_cons_succ]) | (refine Plan.pass (by rfl) ?_; simp only [Act.put, List.setIfInBounds_toArray, List.set_cons_zero, List.set_cons_succ]))
    refine Plan.call (by rfl) 15 _ ?_ (HD.out _) ?_
    · go_simp
    rintro e v7 ⟨rfl, hbv7⟩
    have hSv7 := held_call (Nat.le_refl _) hSv6 hbv7
    refine ⟨_, rfl, hSv7, ?_⟩
    simp only [Act.put, List.setIfInBounds_toArray, List.set_cons_zero, List.set_cons_succ]
    repeat (first | (refine Plan.take ?_ (by rfl) ?_ ?_; rotate_left; (· rintro w9 ⟨hS9, -⟩; go_simp; (try rw [if_neg (by omega)]); all_goals (with_reducible rfl)); simp only [Act.put, List.setIfInBounds_toArray, List.set_cons_zero, List.set_cons_succ]) | (refine Plan.pass (by rfl) ?_; simp only [Act.put, List.setIfInBounds_toArray, List.set_cons_zero, List.set_cons_succ]))
    refine Plan.call (by rfl) 16 _ ?_ (HD2.out _) ?_
    · go_simp
    rintro e v8 ⟨rfl, hbv8⟩
    have hSv8 := held_call (Nat.le_refl _) hSv7 hbv8
    refine ⟨_, rfl, hSv8, ?_⟩
    simp only [Act.put, List.setIfInBounds_toArray, List.set_cons_zero, List.set_cons_succ]
    repeat (first | (refine Plan.take ?_ (by rfl) ?_ ?_; rotate_left; (· rintro w9 ⟨hS9, -⟩; go_simp; (try rw [if_neg (by omega)]); all_goals (with_reducible rfl)); simp only [Act.put, List.setIfInBounds_toArray, List.set_cons_zero, List.set_cons_succ]) | (refine Plan.pass (by rfl) ?_; simp only [Act.put, List.setIfInBounds_toArray, List.set_cons_zero, List.set_cons_succ]))
    refine Plan.ends ?_
    go_wp2_with fail
    go_ret
    exact ⟨rfl, b2.trans (hSv8.2.mono b2.size)⟩
end Go.Proofs.Yteifpflnadjjkaa
