/- The walk of what the decoder reads in a sector. -/
import Derived.Test.YtjihkcjoaefppaaRecRef
import Derived.Test.YtjihkcjoaefppaaRecForm
namespace Go.Proofs.Ytjihkcjoaefppaa
open Go.RowKit Plan

/-- a record's cells -/
def recV (r : RecMath.Rec) : Array Value := #[.int .i64 r.kind, .int .i64 r.block, .int .i64 r.version, .int .i64 r.move, .string ⟨r.payload.toArray⟩]
theorem list40 {s : ByteArray} (h : s.size = 40) : s.data.toList.length = 40 := by rw [size_list]; exact h
theorem getN_field {l : List UInt8} (hl : l.length = 40) (a k : Nat) (h1 : 1 ≤ k) (h7 : k ≤ 7) (h : a + k ≤ 40) : CodecMath.getN l a k = (RecMath.field l a k : Nat) := by
  unfold CodecMath.getN
  rw [if_pos]
  · rfl
  · simp only [CodecMath.okArg, CodecMath.okAt, Bool.and_eq_true, decide_eq_true_eq, hl]
    omega
theorem get_field (s : ByteArray) (hs : s.size = 40) (a k : Nat) (a' k' : Int) (ha : a' = a) (hk : k' = k) (h1 : 1 ≤ k) (h7 : k ≤ 7) (h : a + k ≤ 40) (w : World) :
    Calls Try.prog 46 #[.string s, .int .i64 a', .int .i64 k'] w fun e w' => e = .returned (.int .i64 (RecMath.field s.data.toList a k : Nat)) ∧ w = w' := by
  subst ha hk
  have := recGet_any s a k w (by unfold maxLen; omega)
  rwa [getN_field (list40 hs) a k h1 h7 h] at this
theorem at_field (s : ByteArray) (hs : s.size = 40) (a k : Nat) (a' k' : Int) (ha : a' = a) (hk : k' = k) (h1 : 1 ≤ k) (h7 : k ≤ 7) (h : a + k ≤ 40) (w : World) :
    Calls Try.prog 31 #[.string s, .int .i64 a', .int .i64 k'] w fun e w' => e = .returned (.int .i64 (RecMath.field s.data.toList a k : Nat)) ∧ w = w' := by
  subst ha hk
  have := refAt_any s a k w (by unfold maxLen; omega)
  rwa [getN_field (list40 hs) a k h1 h7 h] at this
set_option maxHeartbeats 400000 in
theorem imageIn_ok (s : ByteArray) (hs : s.size = 40) (n : Nat) (hn : n = min (RecMath.field s.data.toList 3 1) 20) (w : World) :
    Calls Try.prog 38 #[.string s] w fun e w' => e = .returned (.agg #[.string (s.extract 0 2), .int .i64 (RecMath.field s.data.toList 3 1 : Nat), .int .i64 (RecMath.field s.data.toList 15 1 : Nat), .string (s.extract (16 + n) 36),
      .int .i64 (RecMath.field s.data.toList 2 1 : Nat), .int .i64 (RecMath.field s.data.toList 4 4 : Nat), .int .i64 (RecMath.field s.data.toList 8 6 : Nat), .int .i64 (RecMath.field s.data.toList 14 1 : Nat), .string (s.extract 16 (16 + n))]) ∧ Below w.heap.size w w' := by
  have g3 := fun w => get_field s hs 3 1 3 1 rfl rfl (by omega) (by omega) (by omega) w
  have g15 := fun w => get_field s hs 15 1 15 1 rfl rfl (by omega) (by omega) (by omega) w
  have g2 := fun w => get_field s hs 2 1 2 1 rfl rfl (by omega) (by omega) (by omega) w
  have g4 := fun w => get_field s hs 4 4 4 4 rfl rfl (by omega) (by omega) (by omega) w
  have g8 := fun w => get_field s hs 8 6 8 6 rfl rfl (by omega) (by omega) (by omega) w
  have g14 := fun w => get_field s hs 14 1 14 1 rfl rfl (by omega) (by omega) (by omega) w
  generalize RecMath.field s.data.toList 3 1 = F3 at *
  generalize RecMath.field s.data.toList 15 1 = F15 at *
  generalize RecMath.field s.data.toList 2 1 = F2 at *
  generalize RecMath.field s.data.toList 4 4 = F4 at *
  generalize RecMath.field s.data.toList 8 6 = F8 at *
  generalize RecMath.field s.data.toList 14 1 = F14 at *
  have hmin0 : min (F3 : Int) 20 = (n : Int) := by omega
  have hn20 : n ≤ 20 := by omega
  have hmin := Lib.hid hmin0
  clear hmin0 hn
  have H3 := Lib.hid g3
  have H15 := Lib.hid g15
  have H2 := Lib.hid g2
  have H4 := Lib.hid g4
  have H8 := Lib.hid g8
  have H14 := Lib.hid g14
  clear g3 g15 g2 g4 g8 g14
  go_enter Try.func38, Try.ntmps38
  go_wp2_with (go_at_call 46; ((with_reducible refine (H3.out _).mono ?_); rintro e w1 ⟨rfl, rfl⟩))
  have hmin2 := hmin.out
  simp only [hmin2]
  clear hmin2
  have b1 : (2 : Int) ≤ (s.size : Int) := by omega
  have b2 : (0 : Int) ≤ 16 + (n : Int) := by omega
  have b3 : 16 + (n : Int) ≤ 36 := by omega
  have b4 : (36 : Int) ≤ (s.size : Int) := by omega
  have b5 : (16 : Int) ≤ 16 + (n : Int) := by omega
  have b6 : 16 + (n : Int) ≤ (s.size : Int) := by omega
  have b7 : (16 + (n : Int)).toNat = 16 + n := by omega
  clear hs
  refine Plan.start (Held w.heap.size w) [(0, true), (1, true), (2, true), (3, true), (5, true), (6, true), (7, true), (8, true), (10, true), (12, true), (14, true), (16, true), (17, true), (18, true), (4, false), (9, false), (11, false), (13, false), (15, false), (19, true), (20, true), (21, false)] (by kernel_rfl) (by kernel_rfl) (by kernel_rfl) (by kernel_rfl) (held_new (Nat.le_refl _) _) ?_
  simp only [List.map_cons, List.map_nil, List.getElem?_toArray, List.getElem?_cons_zero, List.getElem?_cons_succ]
  repeat (refine Plan.take ?_ (by rfl) ?_ ?_; rotate_left; (· rintro w9 ⟨hS9, -⟩; go_simp; (try rw [if_neg (by omega)]); all_goals (with_reducible rfl)); simp only [Act.put, List.setIfInBounds_toArray, List.set_cons_zero, List.set_cons_succ])
  have hS0 : Held w.heap.size w (w.alloc (.cells #[.string ⟨#[]⟩, .int .i64 0, .int .i64 0, .string ⟨#[]⟩, .int .i64 0, .int .i64 0, .int .i64 0, .int .i64 0, .string ⟨#[]⟩] 66)).drew := held_new (Nat.le_refl _) _
  refine Plan.call (by rfl) 46 _ ?_ (H15.out _) ?_
  · go_simp
  rintro e w1 ⟨rfl, rfl⟩
  refine ⟨_, rfl, hS0, ?_⟩
  simp only [Act.put, List.setIfInBounds_toArray, List.set_cons_zero, List.set_cons_succ]
  refine Plan.call (by rfl) 46 _ ?_ (H2.out _) ?_
  · go_simp
  rintro e w1 ⟨rfl, rfl⟩
  refine ⟨_, rfl, hS0, ?_⟩
  simp only [Act.put, List.setIfInBounds_toArray, List.set_cons_zero, List.set_cons_succ]
  refine Plan.call (by rfl) 46 _ ?_ (H4.out _) ?_
  · go_simp
  rintro e w1 ⟨rfl, rfl⟩
  refine ⟨_, rfl, hS0, ?_⟩
  simp only [Act.put, List.setIfInBounds_toArray, List.set_cons_zero, List.set_cons_succ]
  refine Plan.call (by rfl) 46 _ ?_ (H8.out _) ?_
  · go_simp
  rintro e w1 ⟨rfl, rfl⟩
  refine ⟨_, rfl, hS0, ?_⟩
  simp only [Act.put, List.setIfInBounds_toArray, List.set_cons_zero, List.set_cons_succ]
  refine Plan.call (by rfl) 46 _ ?_ (H14.out _) ?_
  · go_simp
  rintro e w1 ⟨rfl, rfl⟩
  refine ⟨_, rfl, hS0, ?_⟩
  simp only [Act.put, List.setIfInBounds_toArray, List.set_cons_zero, List.set_cons_succ]
  repeat (refine Plan.take ?_ (by rfl) ?_ ?_; rotate_left; (· rintro w9 ⟨hS9, -⟩; go_simp; (try rw [if_neg (by omega)]); all_goals (with_reducible rfl)); simp only [Act.put, List.setIfInBounds_toArray, List.set_cons_zero, List.set_cons_succ])
  refine Plan.store (by rfl) 66 _ _ rfl w.heap.size _ rfl rfl _ _ (heap_new0 _ _) img_info rfl (by simp [Value.oneCell']) (held_row hS0 (Nat.le_refl _) _) ?_
  simp only [Act.put]
  have hg3 := setRow_heap _ w.heap.size _ #[.string (s.extract 0 2), .int .i64 (F3 : Nat), .int .i64 (F15 : Nat), .string (s.extract (16 + n) 36), .int .i64 (F2 : Nat), .int .i64 (F4 : Nat), .int .i64 (F8 : Nat), .int .i64 (F14 : Nat), .string (s.extract 16 (16 + n))] _ _ (heap_new0 w (.cells #[.string ⟨#[]⟩, .int .i64 0, .int .i64 0, .string ⟨#[]⟩, .int .i64 0, .int .i64 0, .int .i64 0, .int .i64 0, .string ⟨#[]⟩] 66))
  have hb3 : Below w.heap.size w ((w.alloc (.cells #[.string ⟨#[]⟩, .int .i64 0, .int .i64 0, .string ⟨#[]⟩, .int .i64 0, .int .i64 0, .int .i64 0, .int .i64 0, .string ⟨#[]⟩] 66)).drew.setRow w.heap.size #[.string (s.extract 0 2), .int .i64 (F3 : Nat), .int .i64 (F15 : Nat), .string (s.extract (16 + n) 36), .int .i64 (F2 : Nat), .int .i64 (F4 : Nat), .int .i64 (F8 : Nat), .int .i64 (F14 : Nat), .string (s.extract 16 (16 + n))]) := below_setRow hS0.2 (Nat.le_refl _) _
  generalize World.setRow _ _ _ = w3 at hg3 hb3 ⊢
  refine Plan.ends ?_
  go_wp2_with fail
  exact bodyPost_ret (results_cell_row rfl _ _ _ _ _ _ _ rfl hg3 Try.underlying66 rfl img_info) rfl ⟨rfl, hb3⟩
end Go.Proofs.Ytjihkcjoaefppaa
