/- The walks of the record's statements: RecordDecodes, RecordExact. -/
import Derived.Test.YthpfkmdnpfgjlaaRecAwake
namespace Go.Proofs.Ythpfkmdnpfgjlaa
open Go.RowKit Plan

set_option maxHeartbeats 1000000 in
theorem decodes_any (s : ByteArray) (w : World) :
    Calls Try.prog 4 #[.string s] w fun e w' => e = .returned (.bool true) ∧ Below w.heap.size w w' := by
  by_cases h : 100 < s.size
  · have hd : (100 : Int) < (s.size : Int) := by omega
    go_enter Try.func4, Try.ntmps4
    go_wp2_with (go_at_call 8; ((with_reducible refine (recAwake _).mono ?_); rintro e w1 ⟨rfl, hb1⟩))
    go_ret
    exact ⟨rfl, hb1⟩
  · have hd : ¬ (100 : Int) < (s.size : Int) := by omega
    have g1 := decode_any s
    have g2 := refDecode_any s
    generalize RecMath.dec s.data.toList = r at g1 g2
    generalize RecMath.decE s.data.toList = E at g1 g2
    simp only [recV] at g1 g2
    generalize r.kind = k at g1 g2
    generalize r.block = b at g1 g2
    generalize r.version = v at g1 g2
    generalize r.move = m at g1 g2
    generalize (⟨r.payload.toArray⟩ : ByteArray) = p at g1 g2
    have H1 := Lib.hid g1
    have H2 := Lib.hid g2
    clear g1 g2 h
    go_enter Try.func4, Try.ntmps4
    go_wp2_with (first
      | (go_at_call 15; ((with_reducible refine (H1.out _).mono ?_); rintro e w1 ⟨rfl, hb1⟩))
      | (go_at_call 16; ((with_reducible refine (H2.out _).mono ?_); rintro e w2 ⟨rfl, hb2⟩; have hr2 := heap_old hb2 (g := w1.heap.size) (by simp) (heap_alloc_new w1 _)))
      | (go_at_call 8; ((with_reducible refine (recAwake _).mono ?_); rintro e w3 ⟨rfl, hb3⟩; have hr3 := row5 (heap_old hb3 (g := w1.heap.size) (by have := hb2.size; simp at this ⊢; omega) ((Below.heap_alloc _ _ _ (by have := hb2.size; simp at this; omega)).trans hr2)); have hr4 := row5 (heap_old hb3 (g := w2.heap.size) (by simp) (heap_alloc_new w2 _)); obtain ⟨hz, c0, c1, c2, c3, c4⟩ := hr3; obtain ⟨hz', d0, d1, d2, d3, d4⟩ := hr4)))
    go_ret
    have z1 := hb1.size
    have z2 := hb2.size
    simp only [World.size_alloc] at z2
    exact ⟨rfl, (((hb1.alloc z1 _).trans (hb2.mono (by simp; omega))).alloc (by omega) _).trans (hb3.mono (by simp; omega))⟩
/-- a record's row stays where nothing that was there has changed -/
theorem row_on {B g : Nat} {W w1 : World} {x : Option Obj} (hb : Below B W w1) (h : W.heap[g]? = x) (hg : g < B) : w1.heap[g]? = x := heap_old hb hg h
theorem row_al {g : Nat} {w : World} {o : Obj} (h : w.heap[g]? = some o) (o2 : Obj) : (w.alloc o2).heap[g]? = some o := (Below.heap_alloc _ _ _ (Array.getElem?_eq_some_iff.1 h).1).trans h
set_option maxHeartbeats 2000000 in
set_option maxRecDepth 20000 in
theorem exact_any (k b v m : Int) (p : ByteArray) (w : World) :
    Calls Try.prog 3 #[.agg #[.int .i64 k, .int .i64 b, .int .i64 v, .int .i64 m, .string p]] w fun e w' => e = .returned (.bool true) ∧ Below w.heap.size w w' := by
  by_cases h : 100 < p.size
  · have hd : (100 : Int) < (p.size : Int) := by omega
    go_enter Try.func3, Try.ntmps3
    go_wp2_with (go_at_call 8; ((with_reducible refine (recAwake _).mono ?_); rintro e w1 ⟨rfl, hb1⟩))
    go_ret
    exact ⟨rfl, ((Below.refl _ _).alloc (Nat.le_refl _) _).trans (hb1.mono (by simp))⟩
  · have hd : ¬ (100 : Int) < (p.size : Int) := by omega
    have g1 := encode_any k b v m p
    have g2 := refEncode_any k b v m p
    have g3 := copy_any k b v m p
    have g4 := refCopy_any k b v m p
    have g5 := check_any k b v m p
    have g6 := refCheck_any k b v m p
    generalize RecMath.checkE (mk k b v m p) = E at *
    generalize (⟨(RecMath.encL (mk k b v m p)).toArray⟩ : ByteArray) = SB at *
    generalize RecMath.copyOk (mk k b v m p) = OK at *
    generalize RecMath.copy (mk k b v m p) = r at *
    simp only [recV] at g3 g4
    generalize r.kind = k' at g3 g4
    generalize r.block = b' at g3 g4
    generalize r.version = v' at g3 g4
    generalize r.move = m' at g3 g4
    generalize (⟨r.payload.toArray⟩ : ByteArray) = p' at g3 g4
    have H1 := Lib.hid g1
    have H2 := Lib.hid g2
    have H3 := Lib.hid g3
    have H4 := Lib.hid g4
    have H5 := Lib.hid g5
    have H6 := Lib.hid g6
    clear g1 g2 g3 g4 g5 g6 h
    go_enter Try.func3, Try.ntmps3
    go_wp2_with (first
      | (go_at_call 9; ((with_reducible refine (H1.out _).mono ?_); rintro e w1 ⟨rfl, hb1⟩; have hr1 := row_on hb1 (heap_alloc_new w _) (by simp); have q1 := row5 hr1; obtain ⟨y1, c10, c11, c12, c13, c14⟩ := q1))
      | (go_at_call 10; ((with_reducible refine (H2.out _).mono ?_); rintro e w2 ⟨rfl, hb2⟩; have hr2 := row_on hb2 hr1 y1; have q2 := row5 hr2; obtain ⟨y2, c20, c21, c22, c23, c24⟩ := q2))
      | (go_at_call 11; ((with_reducible refine (H3.out _).mono ?_); rintro e w3 ⟨rfl, hb3⟩; have hr3 := row_on hb3 hr2 y2; have q3 := row5 hr3; obtain ⟨y3, c30, c31, c32, c33, c34⟩ := q3))
      | (go_at_call 12; ((with_reducible refine (H4.out _).mono ?_); rintro e w4 ⟨rfl, hb4⟩; have hr4 := row_on hb4 (row_al hr3 _) (by simp; omega); have hx4 := row_on hb4 (heap_alloc_new w3 _) (by simp); have q4 := row5 hr4; have q5 := row5 hx4; obtain ⟨y4, c40, c41, c42, c43, c44⟩ := q4; obtain ⟨y5, d40, d41, d42, d43, d44⟩ := q5)))
    clear c10 c11 c12 c13 c14 c20 c21 c22 c23 c24 c30 c31 c32 c33 c34
    refine Plan.start (Held (w4.heap.size + 1) (w4.alloc (.cells #[.int .i64 k', .int .i64 b', .int .i64 v', .int .i64 m', .string p'] 23))) [(0, false), (1, true), (2, true), (4, true), (3, false), (5, false), (6, true), (7, true), (8, true), (9, true), (10, true), (11, true), (12, true), (13, true), (14, true), (15, true), (16, true), (17, true), (18, true), (19, true), (20, true), (21, true), (22, true), (23, true), (24, true), (25, true), (26, true), (27, true), (28, true)] (by kernel_rfl) (by kernel_rfl) (by kernel_rfl) (by kernel_rfl) held_same ?_
    simp only [List.map_cons, List.map_nil, List.getElem?_toArray, List.getElem?_cons_zero, List.getElem?_cons_succ]
    have hS0 : Held (w4.heap.size + 1) (w4.alloc (.cells #[.int .i64 k', .int .i64 b', .int .i64 v', .int .i64 m', .string p'] 23)) (w4.alloc (.cells #[.int .i64 k', .int .i64 b', .int .i64 v', .int .i64 m', .string p'] 23)).drew := held_same
    refine Plan.call (by rfl) 8 _ ?_ (recAwake _) ?_
    · go_simp
    rintro e w5 ⟨rfl, hb5⟩
    have hS5 := held_call (by simp) hS0 hb5
    refine ⟨_, rfl, hS5, ?_⟩
    simp only [Act.put, List.setIfInBounds_toArray, List.set_cons_zero, List.set_cons_succ]
    repeat (first | (refine Plan.take ?_ (by rfl) ?_ ?_; rotate_left; (· rintro w9 ⟨hS9, -⟩; go_simp; (try rw [if_neg (by omega)]); all_goals (with_reducible rfl)); simp only [Act.put, List.setIfInBounds_toArray, List.set_cons_zero, List.set_cons_succ]) | (refine Plan.pass (by rfl) ?_; simp only [Act.put, List.setIfInBounds_toArray, List.set_cons_zero, List.set_cons_succ]))
    refine Plan.call (by rfl) 13 _ ?_ (H5.out _) ?_
    · go_simp
    rintro e w6 ⟨rfl, hb6⟩
    have hS6 := held_call (by simp) hS5 hb6
    refine ⟨_, rfl, hS6, ?_⟩
    simp only [Act.put, List.setIfInBounds_toArray, List.set_cons_zero, List.set_cons_succ]
    repeat (first | (refine Plan.take ?_ (by rfl) ?_ ?_; rotate_left; (· rintro w9 ⟨hS9, -⟩; go_simp; (try rw [if_neg (by omega)]); all_goals (with_reducible rfl)); simp only [Act.put, List.setIfInBounds_toArray, List.set_cons_zero, List.set_cons_succ]) | (refine Plan.pass (by rfl) ?_; simp only [Act.put, List.setIfInBounds_toArray, List.set_cons_zero, List.set_cons_succ]))
    refine Plan.call (by rfl) 14 _ ?_ (H6.out _) ?_
    · go_simp
    rintro e w7 ⟨rfl, hb7⟩
    have hS7 := held_call (by simp) hS6 hb7
    refine ⟨_, rfl, hS7, ?_⟩
    simp only [Act.put, List.setIfInBounds_toArray, List.set_cons_zero, List.set_cons_succ]
    repeat (first | (refine Plan.take ?_ (by rfl) ?_ ?_; rotate_left; (· rintro w9 ⟨hS9, -⟩; go_simp; (try rw [if_neg (by omega)]); all_goals (with_reducible rfl)); simp only [Act.put, List.setIfInBounds_toArray, List.set_cons_zero, List.set_cons_succ]) | (refine Plan.pass (by rfl) ?_; simp only [Act.put, List.setIfInBounds_toArray, List.set_cons_zero, List.set_cons_succ]))
    refine Plan.ends ?_
    go_wp2_with fail
    go_ret
    have z1 := hb1.size
    have z2 := hb2.size
    have z3 := hb3.size
    have z4 := hb4.size
    simp only [World.size_alloc] at z1 z4
    exact ⟨rfl, (((((((Below.refl _ _).alloc (Nat.le_refl _) _).trans (hb1.mono (by simp))).trans (hb2.mono (by omega))).trans (hb3.mono (by omega))).alloc (by omega) _).trans (hb4.mono (by simp; omega))).alloc (by omega) _ |>.trans (hS7.2.mono (by omega))⟩
end Go.Proofs.Ythpfkmdnpfgjlaa
