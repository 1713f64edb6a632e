/- The walk of the document's own decoder, for any bytes. -/
import Derived.Test.YtjihkcjoaefppaaRecDec
namespace Go.Proofs.Ytjihkcjoaefppaa
open Go.RowKit Plan

theorem refDecode_size (s : ByteArray) (hs : s.size ≠ 40) (w : World) :
    Calls Try.prog 23 #[.string s] w fun e w' => e = .returned (.tuple #[.agg #[.int .i64 0, .int .i64 0, .int .i64 0, .int .i64 0, .string ⟨#[]⟩], .int .i64 2]) ∧ Below w.heap.size w w' := by
  have hd : ((s.size : Int) != 40) = true := by simp; omega
  clear hs
  go_enter Try.func23, Try.ntmps23
  go_wp2
  exact bodyPost_ret (Plan.results_cell_tmp (p := 2) (q := 3) rfl _ _ _ _ _ _ _ rfl (heap_alloc_new _ _) Try.underlying24 rfl rec_info) rfl ⟨rfl, (Below.refl _ _).alloc (Nat.le_refl _) _⟩
theorem sum36 (s : ByteArray) (hs : s.size = 40) (w : World) :
    Calls Try.prog 25 #[.string (s.extract 0 36)] w fun e w' => e = .returned (.int .u32 (CrcMath.crc 0 (s.data.toList.take 36) : Nat)) ∧ w = w' := by
  have := refsum_any (s.extract 0 36) (by rw [← size_list, ext_36, List.length_take, size_list]; unfold maxLen; omega) w
  rwa [ext_36] at this
set_option maxHeartbeats 1000000 in
theorem refDecode_sum (s : ByteArray) (hs : s.size = 40) (h : RecMath.field s.data.toList 36 4 ≠ CrcMath.crc 0 (s.data.toList.take 36)) (w : World) :
    Calls Try.prog 23 #[.string s] w fun e w' => e = .returned (.tuple #[.agg #[.int .i64 0, .int .i64 0, .int .i64 0, .int .i64 0, .string ⟨#[]⟩], .int .i64 4]) ∧ Below w.heap.size w w' := by
  have g36 := fun w => at_field s hs 36 4 36 4 rfl rfl (by omega) (by omega) (by omega) w
  have gs := fun w => sum36 s hs w
  have hlt := CrcMath.crc_lt 0 (s.data.toList.take 36)
  generalize RecMath.field s.data.toList 36 4 = F at *
  generalize CrcMath.crc 0 (s.data.toList.take 36) = C at *
  have hne : ((F : Int) != IntKind.i64.wrap (C : Int)) = true := by rw [IntWalk.i64_in _ (by omega)]; simp; omega
  have hd : ((s.size : Int) != 40) = false := by rw [hs]; rfl
  have b1 : (36 : Int) ≤ (s.size : Int) := by omega
  have H := Lib.hid g36
  have HS := Lib.hid gs
  clear g36 gs hs h
  go_enter Try.func23, Try.ntmps23
  go_wp2_with fail
  refine Plan.start (Held w.heap.size w) [(0, true), (2, true), (3, true), (1, false), (4, false), (5, true), (6, true)] (by kernel_rfl) (by kernel_rfl) (by kernel_rfl) (by kernel_rfl) (held_new (Nat.le_refl _) _) ?_
  simp only [List.map_cons, List.map_nil, List.getElem?_toArray, List.getElem?_cons_zero, List.getElem?_cons_succ]
  have hS0 : Held w.heap.size w (w.alloc (.cells #[.int .i64 0, .int .i64 0, .int .i64 0, .int .i64 0, .string ⟨#[]⟩] 24)).drew := held_new (Nat.le_refl _) _
  repeat (first | (refine Plan.take ?_ (by rfl) ?_ ?_; rotate_left; (· rintro w9 ⟨hS9, -⟩; go_simp; (try rw [if_neg (by omega)]); all_goals (with_reducible rfl)); simp only [Act.put, List.setIfInBounds_toArray, List.set_cons_zero, List.set_cons_succ]) | (refine Plan.pass (by rfl) ?_; simp only [Act.put, List.setIfInBounds_toArray, List.set_cons_zero, List.set_cons_succ]))
  refine Plan.call (by rfl) 31 _ ?_ (H.out _) ?_
  · go_simp
  rintro e w1 ⟨rfl, rfl⟩
  refine ⟨_, rfl, hS0, ?_⟩
  simp only [Act.put, List.setIfInBounds_toArray, List.set_cons_zero, List.set_cons_succ]
  refine Plan.call (by rfl) 25 _ ?_ (HS.out _) ?_
  · go_simp
  rintro e w1 ⟨rfl, rfl⟩
  refine ⟨_, rfl, hS0, ?_⟩
  simp only [Act.put, List.setIfInBounds_toArray, List.set_cons_zero, List.set_cons_succ]
  repeat (first | (refine Plan.take ?_ (by rfl) ?_ ?_; rotate_left; (· rintro w9 ⟨hS9, -⟩; go_simp; (try rw [if_neg (by omega)]); all_goals (with_reducible rfl)); simp only [Act.put, List.setIfInBounds_toArray, List.set_cons_zero, List.set_cons_succ]) | (refine Plan.pass (by rfl) ?_; simp only [Act.put, List.setIfInBounds_toArray, List.set_cons_zero, List.set_cons_succ]))
  refine Plan.ends ?_
  go_wp2
  exact bodyPost_ret (Plan.results_cell_tmp (p := 2) (q := 3) rfl _ _ _ _ _ _ _ rfl (heap_alloc_new _ _) Try.underlying24 rfl rec_info) rfl ⟨rfl, hS0.2⟩
set_option maxHeartbeats 1000000 in
theorem refDecode_no (s : ByteArray) (hs : s.size = 40) (h : RecMath.field s.data.toList 36 4 = CrcMath.crc 0 (s.data.toList.take 36)) (hc : RecMath.checkE (RecMath.read s.data.toList) ≠ 0) (w : World) :
    Calls Try.prog 23 #[.string s] w fun e w' => e = .returned (.tuple #[.agg #[.int .i64 0, .int .i64 0, .int .i64 0, .int .i64 0, .string ⟨#[]⟩], .int .i64 3]) ∧ Below w.heap.size w w' := by
  obtain ⟨n, hn⟩ : ∃ n, n = min (RecMath.field s.data.toList 3 1) 20 := ⟨_, rfl⟩
  have g36 := fun w => at_field s hs 36 4 36 4 rfl rfl (by omega) (by omega) (by omega) w
  have gs := fun w => sum36 s hs w
  have g3 := fun w => at_field s hs 3 1 3 1 rfl rfl (by omega) (by omega) (by omega) w
  have g2 := fun w => at_field s hs 2 1 2 1 rfl rfl (by omega) (by omega) (by omega) w
  have g4 := fun w => at_field s hs 4 4 4 4 rfl rfl (by omega) (by omega) (by omega) w
  have g8 := fun w => at_field s hs 8 6 8 6 rfl rfl (by omega) (by omega) (by omega) w
  have g14 := fun w => at_field s hs 14 1 14 1 rfl rfl (by omega) (by omega) (by omega) w
  have ge := refEncode_any (RecMath.field s.data.toList 2 1 : Nat) (RecMath.field s.data.toList 4 4 : Nat) (RecMath.field s.data.toList 8 6 : Nat) (RecMath.field s.data.toList 14 1 : Nat) (s.extract 16 (16 + n))
  rw [← read_mk s n hn] at ge
  have hr := congrArg recV (read_mk s n hn)
  simp only [recV, mk] at hr
  rw [back_bytes] at hr
  have hlt := CrcMath.crc_lt 0 (s.data.toList.take 36)
  rw [h] at g36
  have hE : (RecMath.checkE (RecMath.read s.data.toList) != 0) = true := by simpa using hc
  clear hc
  clear h
  generalize (⟨(RecMath.encL (RecMath.read s.data.toList)).toArray⟩ : ByteArray) = T at *
  generalize RecMath.checkE (RecMath.read s.data.toList) = E at *
  generalize RecMath.read s.data.toList = RD at *
  generalize CrcMath.crc 0 (s.data.toList.take 36) = C at *
  generalize RecMath.field s.data.toList 3 1 = F3 at *
  generalize RecMath.field s.data.toList 2 1 = F2 at *
  generalize RecMath.field s.data.toList 4 4 = F4 at *
  generalize RecMath.field s.data.toList 8 6 = F8 at *
  generalize RecMath.field s.data.toList 14 1 = F14 at *
  have hne : ((C : Int) != IntKind.i64.wrap (C : Int)) = false := by rw [IntWalk.i64_in _ (by omega)]; simp
  have hd : ((s.size : Int) != 40) = false := by rw [hs]; rfl
  have hmin : min (F3 : Int) 20 = (n : Int) := by omega
  have b1 : (36 : Int) ≤ (s.size : Int) := by omega
  have b2 : (0 : Int) ≤ 16 + (n : Int) := by omega
  have b5 : (16 : Int) ≤ 16 + (n : Int) := by omega
  have b6 : 16 + (n : Int) ≤ (s.size : Int) := by omega
  have b7 : (16 + (n : Int)).toNat = 16 + n := by omega
  have H := Lib.hid g36
  have HS := Lib.hid gs
  have H3 := Lib.hid g3
  have H2 := Lib.hid g2
  have H4 := Lib.hid g4
  have H8 := Lib.hid g8
  have H14 := Lib.hid g14
  have HE := Lib.hid ge
  have HR := Lib.hid hr
  clear g36 gs g3 g2 g4 g8 g14 ge hr hs hn
  go_enter Try.func23, Try.ntmps23
  go_wp2_with fail
  refine Plan.start (Held w.heap.size w) [(0, true), (2, true), (3, true), (1, false), (4, false), (5, true), (6, true)] (by kernel_rfl) (by kernel_rfl) (by kernel_rfl) (by kernel_rfl) (held_new (Nat.le_refl _) _) ?_
  simp only [List.map_cons, List.map_nil, List.getElem?_toArray, List.getElem?_cons_zero, List.getElem?_cons_succ]
  have hS0 : Held w.heap.size w (w.alloc (.cells #[.int .i64 0, .int .i64 0, .int .i64 0, .int .i64 0, .string ⟨#[]⟩] 24)).drew := held_new (Nat.le_refl _) _
  repeat (first | (refine Plan.take ?_ (by rfl) ?_ ?_; rotate_left; (· rintro w9 ⟨hS9, -⟩; go_simp; (try rw [if_neg (by omega)]); all_goals (with_reducible rfl)); simp only [Act.put, List.setIfInBounds_toArray, List.set_cons_zero, List.set_cons_succ]) | (refine Plan.pass (by rfl) ?_; simp only [Act.put, List.setIfInBounds_toArray, List.set_cons_zero, List.set_cons_succ]))
  refine Plan.call (by rfl) 31 _ ?_ (H.out _) ?_
  · go_simp
  rintro e w1 ⟨rfl, rfl⟩
  refine ⟨_, rfl, hS0, ?_⟩
  simp only [Act.put, List.setIfInBounds_toArray, List.set_cons_zero, List.set_cons_succ]
  refine Plan.call (by rfl) 25 _ ?_ (HS.out _) ?_
  · go_simp
  rintro e w1 ⟨rfl, rfl⟩
  refine ⟨_, rfl, hS0, ?_⟩
  simp only [Act.put, List.setIfInBounds_toArray, List.set_cons_zero, List.set_cons_succ]
  repeat (first | (refine Plan.take ?_ (by rfl) ?_ ?_; rotate_left; (· rintro w9 ⟨hS9, -⟩; go_simp; (try rw [if_neg (by omega)]); all_goals (with_reducible rfl)); simp only [Act.put, List.setIfInBounds_toArray, List.set_cons_zero, List.set_cons_succ]) | (refine Plan.pass (by rfl) ?_; simp only [Act.put, List.setIfInBounds_toArray, List.set_cons_zero, List.set_cons_succ]))
  refine Plan.ends ?_
  go_wp2_with (first
    | (go_at_call 31; ((with_reducible refine (H3.out _).mono ?_); rintro e w1 ⟨rfl, rfl⟩))
    | (go_at_call 31; ((with_reducible refine (H2.out _).mono ?_); rintro e w1 ⟨rfl, rfl⟩))
    | (go_at_call 31; ((with_reducible refine (H4.out _).mono ?_); rintro e w1 ⟨rfl, rfl⟩))
    | (go_at_call 31; ((with_reducible refine (H8.out _).mono ?_); rintro e w1 ⟨rfl, rfl⟩))
    | (go_at_call 31; ((with_reducible refine (H14.out _).mono ?_); rintro e w1 ⟨rfl, rfl⟩))
    | (go_at_call 26; ((with_reducible refine (HE.out _).mono ?_); rintro e w1 ⟨rfl, hb1⟩; obtain ⟨hc1, hf1⟩ := bcell hb1; have hg1 := heap_old hb1 (g := w.heap.size) (by simp; omega) ((Below.heap_alloc _ _ _ (by simp)).trans (heap_alloc_new w _))))
    | (refine wpList_store_row rfl 24 _ _ rfl w.heap.size _ rfl rfl _ _ hg1 rec_info rfl (by simp [Value.oneCell']) ?_))
  exact bodyPost_ret (Plan.results_cell_tmp (p := 2) (q := 3) rfl _ _ _ _ _ _ _ rfl (setRow_heap w1 _ _ _ _ _ hg1) Try.underlying24 rfl rec_info) rfl ⟨rfl, below_setRow (((((Below.refl _ _).alloc (Nat.le_refl _) _).alloc (by simp) _).drew).trans (hb1.mono (by simp; omega))) (Nat.le_refl _) _⟩
set_option maxHeartbeats 1000000 in
theorem refDecode_form (s : ByteArray) (hs : s.size = 40) (h : RecMath.field s.data.toList 36 4 = CrcMath.crc 0 (s.data.toList.take 36)) (hc : RecMath.checkE (RecMath.read s.data.toList) = 0) (hf : RecMath.encL (RecMath.read s.data.toList) ≠ s.data.toList) (w : World) :
    Calls Try.prog 23 #[.string s] w fun e w' => e = .returned (.tuple #[.agg #[.int .i64 0, .int .i64 0, .int .i64 0, .int .i64 0, .string ⟨#[]⟩], .int .i64 3]) ∧ Below w.heap.size w w' := by
  obtain ⟨n, hn⟩ : ∃ n, n = min (RecMath.field s.data.toList 3 1) 20 := ⟨_, rfl⟩
  have g36 := fun w => at_field s hs 36 4 36 4 rfl rfl (by omega) (by omega) (by omega) w
  have gs := fun w => sum36 s hs w
  have g3 := fun w => at_field s hs 3 1 3 1 rfl rfl (by omega) (by omega) (by omega) w
  have g2 := fun w => at_field s hs 2 1 2 1 rfl rfl (by omega) (by omega) (by omega) w
  have g4 := fun w => at_field s hs 4 4 4 4 rfl rfl (by omega) (by omega) (by omega) w
  have g8 := fun w => at_field s hs 8 6 8 6 rfl rfl (by omega) (by omega) (by omega) w
  have g14 := fun w => at_field s hs 14 1 14 1 rfl rfl (by omega) (by omega) (by omega) w
  have ge := refEncode_any (RecMath.field s.data.toList 2 1 : Nat) (RecMath.field s.data.toList 4 4 : Nat) (RecMath.field s.data.toList 8 6 : Nat) (RecMath.field s.data.toList 14 1 : Nat) (s.extract 16 (16 + n))
  rw [← read_mk s n hn] at ge
  have hr := congrArg recV (read_mk s n hn)
  simp only [recV, mk] at hr
  rw [back_bytes] at hr
  have hlt := CrcMath.crc_lt 0 (s.data.toList.take 36)
  rw [h] at g36
  rw [hc] at ge
  have hT : ((⟨(RecMath.encL (RecMath.read s.data.toList)).toArray⟩ : ByteArray).toList == s.toList) = false := by
    rw [eq_bytes _ _ _ _ (toList_mk _) rfl, beq_eq_false_iff_ne]; exact hf
  clear hc hf
  clear h
  generalize (⟨(RecMath.encL (RecMath.read s.data.toList)).toArray⟩ : ByteArray) = T at *
  generalize RecMath.read s.data.toList = RD at *
  generalize CrcMath.crc 0 (s.data.toList.take 36) = C at *
  generalize RecMath.field s.data.toList 3 1 = F3 at *
  generalize RecMath.field s.data.toList 2 1 = F2 at *
  generalize RecMath.field s.data.toList 4 4 = F4 at *
  generalize RecMath.field s.data.toList 8 6 = F8 at *
  generalize RecMath.field s.data.toList 14 1 = F14 at *
  have hne : ((C : Int) != IntKind.i64.wrap (C : Int)) = false := by rw [IntWalk.i64_in _ (by omega)]; simp
  have hd : ((s.size : Int) != 40) = false := by rw [hs]; rfl
  have hmin : min (F3 : Int) 20 = (n : Int) := by omega
  have b1 : (36 : Int) ≤ (s.size : Int) := by omega
  have b2 : (0 : Int) ≤ 16 + (n : Int) := by omega
  have b5 : (16 : Int) ≤ 16 + (n : Int) := by omega
  have b6 : 16 + (n : Int) ≤ (s.size : Int) := by omega
  have b7 : (16 + (n : Int)).toNat = 16 + n := by omega
  have H := Lib.hid g36
  have HS := Lib.hid gs
  have H3 := Lib.hid g3
  have H2 := Lib.hid g2
  have H4 := Lib.hid g4
  have H8 := Lib.hid g8
  have H14 := Lib.hid g14
  have HE := Lib.hid ge
  have HR := Lib.hid hr
  clear g36 gs g3 g2 g4 g8 g14 ge hr hs hn
  go_enter Try.func23, Try.ntmps23
  go_wp2_with fail
  refine Plan.start (Held w.heap.size w) [(0, true), (2, true), (3, true), (1, false), (4, false), (5, true), (6, true)] (by kernel_rfl) (by kernel_rfl) (by kernel_rfl) (by kernel_rfl) (held_new (Nat.le_refl _) _) ?_
  simp only [List.map_cons, List.map_nil, List.getElem?_toArray, List.getElem?_cons_zero, List.getElem?_cons_succ]
  have hS0 : Held w.heap.size w (w.alloc (.cells #[.int .i64 0, .int .i64 0, .int .i64 0, .int .i64 0, .string ⟨#[]⟩] 24)).drew := held_new (Nat.le_refl _) _
  repeat (first | (refine Plan.take ?_ (by rfl) ?_ ?_; rotate_left; (· rintro w9 ⟨hS9, -⟩; go_simp; (try rw [if_neg (by omega)]); all_goals (with_reducible rfl)); simp only [Act.put, List.setIfInBounds_toArray, List.set_cons_zero, List.set_cons_succ]) | (refine Plan.pass (by rfl) ?_; simp only [Act.put, List.setIfInBounds_toArray, List.set_cons_zero, List.set_cons_succ]))
  refine Plan.call (by rfl) 31 _ ?_ (H.out _) ?_
  · go_simp
  rintro e w1 ⟨rfl, rfl⟩
  refine ⟨_, rfl, hS0, ?_⟩
  simp only [Act.put, List.setIfInBounds_toArray, List.set_cons_zero, List.set_cons_succ]
  refine Plan.call (by rfl) 25 _ ?_ (HS.out _) ?_
  · go_simp
  rintro e w1 ⟨rfl, rfl⟩
  refine ⟨_, rfl, hS0, ?_⟩
  simp only [Act.put, List.setIfInBounds_toArray, List.set_cons_zero, List.set_cons_succ]
  repeat (first | (refine Plan.take ?_ (by rfl) ?_ ?_; rotate_left; (· rintro w9 ⟨hS9, -⟩; go_simp; (try rw [if_neg (by omega)]); all_goals (with_reducible rfl)); simp only [Act.put, List.setIfInBounds_toArray, List.set_cons_zero, List.set_cons_succ]) | (refine Plan.pass (by rfl) ?_; simp only [Act.put, List.setIfInBounds_toArray, List.set_cons_zero, List.set_cons_succ]))
  refine Plan.ends ?_
  go_wp2_with (first
    | (go_at_call 31; ((with_reducible refine (H3.out _).mono ?_); rintro e w1 ⟨rfl, rfl⟩))
    | (go_at_call 31; ((with_reducible refine (H2.out _).mono ?_); rintro e w1 ⟨rfl, rfl⟩))
    | (go_at_call 31; ((with_reducible refine (H4.out _).mono ?_); rintro e w1 ⟨rfl, rfl⟩))
    | (go_at_call 31; ((with_reducible refine (H8.out _).mono ?_); rintro e w1 ⟨rfl, rfl⟩))
    | (go_at_call 31; ((with_reducible refine (H14.out _).mono ?_); rintro e w1 ⟨rfl, rfl⟩))
    | (go_at_call 26; ((with_reducible refine (HE.out _).mono ?_); rintro e w1 ⟨rfl, hb1⟩; obtain ⟨hc1, hf1⟩ := bcell hb1; have hg1 := heap_old hb1 (g := w.heap.size) (by simp; omega) ((Below.heap_alloc _ _ _ (by simp)).trans (heap_alloc_new w _))))
    | (refine wpList_store_row rfl 24 _ _ rfl w.heap.size _ rfl rfl _ _ hg1 rec_info rfl (by simp [Value.oneCell']) ?_))
  exact bodyPost_ret (Plan.results_cell_tmp (p := 2) (q := 3) rfl _ _ _ _ _ _ _ rfl (setRow_heap w1 _ _ _ _ _ hg1) Try.underlying24 rfl rec_info) rfl ⟨rfl, below_setRow (((((Below.refl _ _).alloc (Nat.le_refl _) _).alloc (by simp) _).drew).trans (hb1.mono (by simp; omega))) (Nat.le_refl _) _⟩
set_option maxHeartbeats 1000000 in
theorem refDecode_yes (s : ByteArray) (hs : s.size = 40) (h : RecMath.field s.data.toList 36 4 = CrcMath.crc 0 (s.data.toList.take 36)) (hc : RecMath.checkE (RecMath.read s.data.toList) = 0) (hf : RecMath.encL (RecMath.read s.data.toList) = s.data.toList) (w : World) :
    Calls Try.prog 23 #[.string s] w fun e w' => e = .returned (.tuple #[.agg (recV (RecMath.read s.data.toList)), .int .i64 0]) ∧ Below w.heap.size w w' := by
  obtain ⟨n, hn⟩ : ∃ n, n = min (RecMath.field s.data.toList 3 1) 20 := ⟨_, rfl⟩
  have g36 := fun w => at_field s hs 36 4 36 4 rfl rfl (by omega) (by omega) (by omega) w
  have gs := fun w => sum36 s hs w
  have g3 := fun w => at_field s hs 3 1 3 1 rfl rfl (by omega) (by omega) (by omega) w
  have g2 := fun w => at_field s hs 2 1 2 1 rfl rfl (by omega) (by omega) (by omega) w
  have g4 := fun w => at_field s hs 4 4 4 4 rfl rfl (by omega) (by omega) (by omega) w
  have g8 := fun w => at_field s hs 8 6 8 6 rfl rfl (by omega) (by omega) (by omega) w
  have g14 := fun w => at_field s hs 14 1 14 1 rfl rfl (by omega) (by omega) (by omega) w
  have ge := refEncode_any (RecMath.field s.data.toList 2 1 : Nat) (RecMath.field s.data.toList 4 4 : Nat) (RecMath.field s.data.toList 8 6 : Nat) (RecMath.field s.data.toList 14 1 : Nat) (s.extract 16 (16 + n))
  rw [← read_mk s n hn] at ge
  have hr := congrArg recV (read_mk s n hn)
  simp only [recV, mk] at hr
  rw [back_bytes] at hr
  have hlt := CrcMath.crc_lt 0 (s.data.toList.take 36)
  rw [h] at g36
  rw [hc, hf, back_bytes] at ge
  clear hc hf
  clear h
  generalize RecMath.read s.data.toList = RD at *
  generalize CrcMath.crc 0 (s.data.toList.take 36) = C at *
  generalize RecMath.field s.data.toList 3 1 = F3 at *
  generalize RecMath.field s.data.toList 2 1 = F2 at *
  generalize RecMath.field s.data.toList 4 4 = F4 at *
  generalize RecMath.field s.data.toList 8 6 = F8 at *
  generalize RecMath.field s.data.toList 14 1 = F14 at *
  have hne : ((C : Int) != IntKind.i64.wrap (C : Int)) = false := by rw [IntWalk.i64_in _ (by omega)]; simp
  have hd : ((s.size : Int) != 40) = false := by rw [hs]; rfl
  have hmin : min (F3 : Int) 20 = (n : Int) := by omega
  have b1 : (36 : Int) ≤ (s.size : Int) := by omega
  have b2 : (0 : Int) ≤ 16 + (n : Int) := by omega
  have b5 : (16 : Int) ≤ 16 + (n : Int) := by omega
  have b6 : 16 + (n : Int) ≤ (s.size : Int) := by omega
  have b7 : (16 + (n : Int)).toNat = 16 + n := by omega
  have H := Lib.hid g36
  have HS := Lib.hid gs
  have H3 := Lib.hid g3
  have H2 := Lib.hid g2
  have H4 := Lib.hid g4
  have H8 := Lib.hid g8
  have H14 := Lib.hid g14
  have HE := Lib.hid ge
  have HR := Lib.hid hr
  clear g36 gs g3 g2 g4 g8 g14 ge hr hs hn
  go_enter Try.func23, Try.ntmps23
  go_wp2_with fail
  refine Plan.start (Held w.heap.size w) [(0, true), (2, true), (3, true), (1, false), (4, false), (5, true), (6, true)] (by kernel_rfl) (by kernel_rfl) (by kernel_rfl) (by kernel_rfl) (held_new (Nat.le_refl _) _) ?_
  simp only [List.map_cons, List.map_nil, List.getElem?_toArray, List.getElem?_cons_zero, List.getElem?_cons_succ]
  have hS0 : Held w.heap.size w (w.alloc (.cells #[.int .i64 0, .int .i64 0, .int .i64 0, .int .i64 0, .string ⟨#[]⟩] 24)).drew := held_new (Nat.le_refl _) _
  repeat (first | (refine Plan.take ?_ (by rfl) ?_ ?_; rotate_left; (· rintro w9 ⟨hS9, -⟩; go_simp; (try rw [if_neg (by omega)]); all_goals (with_reducible rfl)); simp only [Act.put, List.setIfInBounds_toArray, List.set_cons_zero, List.set_cons_succ]) | (refine Plan.pass (by rfl) ?_; simp only [Act.put, List.setIfInBounds_toArray, List.set_cons_zero, List.set_cons_succ]))
  refine Plan.call (by rfl) 31 _ ?_ (H.out _) ?_
  · go_simp
  rintro e w1 ⟨rfl, rfl⟩
  refine ⟨_, rfl, hS0, ?_⟩
  simp only [Act.put, List.setIfInBounds_toArray, List.set_cons_zero, List.set_cons_succ]
  refine Plan.call (by rfl) 25 _ ?_ (HS.out _) ?_
  · go_simp
  rintro e w1 ⟨rfl, rfl⟩
  refine ⟨_, rfl, hS0, ?_⟩
  simp only [Act.put, List.setIfInBounds_toArray, List.set_cons_zero, List.set_cons_succ]
  repeat (first | (refine Plan.take ?_ (by rfl) ?_ ?_; rotate_left; (· rintro w9 ⟨hS9, -⟩; go_simp; (try rw [if_neg (by omega)]); all_goals (with_reducible rfl)); simp only [Act.put, List.setIfInBounds_toArray, List.set_cons_zero, List.set_cons_succ]) | (refine Plan.pass (by rfl) ?_; simp only [Act.put, List.setIfInBounds_toArray, List.set_cons_zero, List.set_cons_succ]))
  refine Plan.ends ?_
  go_wp2_with (first
    | (go_at_call 31; ((with_reducible refine (H3.out _).mono ?_); rintro e w1 ⟨rfl, rfl⟩))
    | (go_at_call 31; ((with_reducible refine (H2.out _).mono ?_); rintro e w1 ⟨rfl, rfl⟩))
    | (go_at_call 31; ((with_reducible refine (H4.out _).mono ?_); rintro e w1 ⟨rfl, rfl⟩))
    | (go_at_call 31; ((with_reducible refine (H8.out _).mono ?_); rintro e w1 ⟨rfl, rfl⟩))
    | (go_at_call 31; ((with_reducible refine (H14.out _).mono ?_); rintro e w1 ⟨rfl, rfl⟩))
    | (go_at_call 26; ((with_reducible refine (HE.out _).mono ?_); rintro e w1 ⟨rfl, hb1⟩; obtain ⟨hc1, hf1⟩ := bcell hb1; have hg1 := heap_old hb1 (g := w.heap.size) (by simp; omega) ((Below.heap_alloc _ _ _ (by simp)).trans (heap_alloc_new w _))))
    | (refine wpList_store_row rfl 24 _ _ rfl w.heap.size _ rfl rfl _ _ hg1 rec_info rfl (by simp [Value.oneCell']) ?_))
  exact bodyPost_ret (Plan.results_cell_tmp (p := 2) (q := 3) rfl _ _ _ _ _ _ _ rfl (setRow_heap w1 _ _ _ _ _ hg1) Try.underlying24 rfl rec_info) rfl ⟨(congrArg (fun c => Ending.returned (.tuple #[.agg c, .int .i64 0])) HR.out).symm, below_setRow (((((Below.refl _ _).alloc (Nat.le_refl _) _).alloc (by simp) _).drew).trans (hb1.mono (by simp; omega))) (Nat.le_refl _) _⟩
/-- the document's Decode, for any bytes -/
theorem refDecode_any (s : ByteArray) (w : World) :
    Calls Try.prog 23 #[.string s] w fun e w' => e = .returned (.tuple #[.agg (recV (RecMath.dec s.data.toList)), .int .i64 (RecMath.decE s.data.toList)]) ∧ Below w.heap.size w w' := by
  by_cases hs : s.size = 40
  · have hl := list40 hs
    by_cases h : RecMath.field s.data.toList 36 4 = CrcMath.crc 0 (s.data.toList.take 36)
    · have hE : RecMath.decE s.data.toList = if RecMath.checkE (RecMath.read s.data.toList) = 0 ∧ RecMath.encL (RecMath.read s.data.toList) = s.data.toList then 0 else 3 := by
        unfold RecMath.decE
        rw [if_neg (by simp [hl]), if_neg (by simp [h])]
      by_cases hc : RecMath.checkE (RecMath.read s.data.toList) = 0
      · by_cases hf : RecMath.encL (RecMath.read s.data.toList) = s.data.toList
        · have := refDecode_yes s hs h hc hf w
          rw [if_pos ⟨hc, hf⟩] at hE
          unfold RecMath.dec
          rw [hE, if_pos rfl]
          exact this
        · have := refDecode_form s hs h hc hf w
          rw [if_neg (fun h => hf h.2)] at hE
          unfold RecMath.dec
          rw [hE, if_neg (by decide)]
          exact this
      · have := refDecode_no s hs h hc w
        rw [if_neg (fun h => hc h.1)] at hE
        unfold RecMath.dec
        rw [hE, if_neg (by decide)]
        exact this
    · have := refDecode_sum s hs h w
      have hE : RecMath.decE s.data.toList = 4 := by
        unfold RecMath.decE
        rw [if_neg (by simp [hl]), if_pos h]
      unfold RecMath.dec
      rw [hE, if_neg (by decide)]
      exact this
  · have := refDecode_size s hs w
    have hE : RecMath.decE s.data.toList = 2 := by
      unfold RecMath.decE
      rw [if_pos (by rw [size_list]; exact hs)]
    unfold RecMath.dec
    rw [hE, if_neg (by decide)]
    exact this
end Go.Proofs.Ytjihkcjoaefppaa
