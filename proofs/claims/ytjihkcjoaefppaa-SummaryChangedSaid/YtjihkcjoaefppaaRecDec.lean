/- The walks of the decoder: Decode, and the document's own, for any bytes. -/
import Derived.Test.YtjihkcjoaefppaaRecImg
namespace Go.Proofs.Ytjihkcjoaefppaa
open Go.RowKit Plan

theorem rec_info : (Try.prog.info? 24).map (·.size) = some 5 := by kernel_rfl
theorem ext_list (s : ByteArray) (a b : Nat) : (s.extract a b).data.toList = (s.data.toList.drop a).take (b - a) := by
  simp [List.extract]
theorem ext_seg (s : ByteArray) (a b k : Nat) (h : b = a + k) : (s.extract a b).data.toList = RecMath.seg s.data.toList a k := by
  rw [ext_list, h, Nat.add_sub_cancel_left]
  rfl
theorem ext_36 (s : ByteArray) : (s.extract 0 36).data.toList = s.data.toList.take 36 := by
  rw [ext_list]; rfl
theorem zero_rec : recV RecMath.Rec.zero = #[.int .i64 0, .int .i64 0, .int .i64 0, .int .i64 0, .string ⟨#[]⟩] := rfl
theorem decode_size (s : ByteArray) (hs : s.size ≠ 40) (w : World) :
    Calls Try.prog 28 #[.string s] w fun e w' => e = .returned (.tuple #[.agg #[.int .i64 0, .int .i64 0, .int .i64 0, .int .i64 0, .string ⟨#[]⟩], .int .i64 2]) ∧ Below w.heap.size w w' := by
  have hd : ((s.size : Int) != 40) = true := by simp; omega
  clear hs
  go_enter Try.func28, Try.ntmps28
  go_wp2
  exact bodyPost_ret (Plan.results_cell_tmp (p := 2) (q := 3) rfl _ _ _ _ _ _ _ rfl (heap_alloc_new _ _) Try.underlying24 rfl rec_info) rfl ⟨rfl, (Below.refl _ _).alloc (Nat.le_refl _) _⟩
theorem seal36 (s : ByteArray) (hs : s.size = 40) (w : World) (g : Nat) (hg : g = w.heap.size) :
    Calls Try.prog 37 #[.slice (some ⟨g, 0, none⟩) 1 1] (w.alloc (.cells #[.string (s.extract 0 36)] 9)) fun e w' => e = .returned (.string ⟨(RecMath.sealL (s.data.toList.take 36)).toArray⟩) ∧ Below w.heap.size w w' := by
  subst hg
  refine (seal_any _ _ _ [s.extract 0 36] (s.data.toList.take 36) _ ?_ (by simp) rfl (by simp) (by simp) ?_ ?_).mono fun e w' h => ⟨h.1, ((Below.refl _ _).alloc (Nat.le_refl _) _).trans (h.2.mono (by simp))⟩
  · intro j x hx
    rw [cell_of_row _ _ j _ _ _ (heap_alloc_new w _)]
    match j, hx with
    | 0, h => simpa using h
    | j + 1, h => simp at h
  · simp only [List.map_cons, List.map_nil, List.flatten_cons, List.flatten_nil, List.append_nil, ext_36]
  · rw [List.length_take, size_list]; omega
theorem seal_same (s : ByteArray) (hs : s.size = 40) (h : RecMath.field s.data.toList 36 4 = CrcMath.crc 0 (s.data.toList.take 36)) : (⟨(RecMath.sealL (s.data.toList.take 36)).toArray⟩ : ByteArray) = s := by
  rw [(RecMath.seal_iff (list40 hs)).2 h]
theorem seal_other (s : ByteArray) (hs : s.size = 40) (h : RecMath.field s.data.toList 36 4 ≠ CrcMath.crc 0 (s.data.toList.take 36)) : (s.toList == (⟨(RecMath.sealL (s.data.toList.take 36)).toArray⟩ : ByteArray).toList) = false := by
  rw [ByteArray.toList_eq, ByteArray.toList_eq, toList_mk, beq_eq_false_iff_ne]
  intro e
  exact h ((RecMath.seal_iff (list40 hs)).1 e.symm)
set_option maxHeartbeats 400000 in
theorem decode_sum (s : ByteArray) (hs : s.size = 40) (h : RecMath.field s.data.toList 36 4 ≠ CrcMath.crc 0 (s.data.toList.take 36)) (w : World) :
    Calls Try.prog 28 #[.string s] w fun e w' => e = .returned (.tuple #[.agg #[.int .i64 0, .int .i64 0, .int .i64 0, .int .i64 0, .string ⟨#[]⟩], .int .i64 4]) ∧ Below w.heap.size w w' := by
  have hq := seal_other s hs h
  have hse := fun w g hg => seal36 s hs w g hg
  generalize (⟨(RecMath.sealL (s.data.toList.take 36)).toArray⟩ : ByteArray) = X at hq hse
  have HS := Lib.hid hse
  have hd : ((s.size : Int) != 40) = false := by rw [hs]; rfl
  have b1 : (36 : Int) ≤ (s.size : Int) := by omega
  clear hse hs h
  go_enter Try.func28, Try.ntmps28
  go_wp2_with (first
    | (go_at_call 37; ((with_reducible refine (HS.out _ _ (by simp)).mono ?_); rintro e w1 ⟨rfl, hb1⟩; have hg1 := heap_old hb1 (g := w.heap.size) (by simp) (heap_alloc_new w _)))
    | (refine wpList_store_row rfl 24 _ _ rfl w.heap.size _ rfl rfl _ _ hg1 rec_info rfl (by simp [Value.oneCell']) ?_))
  exact bodyPost_ret (Plan.results_cell_tmp (p := 2) (q := 3) rfl _ _ _ _ _ _ _ rfl (setRow_heap w1 _ _ _ _ _ hg1) Try.underlying24 rfl rec_info) rfl ⟨rfl, below_setRow (((Below.refl _ _).alloc (Nat.le_refl _) _).trans (hb1.mono (by simp))) (Nat.le_refl _) _⟩
/-- what the decoder reads, as the model has it -/
theorem read_mk (s : ByteArray) (n : Nat) (hn : n = min (RecMath.field s.data.toList 3 1) 20) :
    RecMath.read s.data.toList = mk (RecMath.field s.data.toList 2 1 : Nat) (RecMath.field s.data.toList 4 4 : Nat) (RecMath.field s.data.toList 8 6 : Nat) (RecMath.field s.data.toList 14 1 : Nat) (s.extract 16 (16 + n)) := by
  subst hn
  unfold RecMath.read mk
  rw [ext_seg s 16 _ (min (RecMath.field s.data.toList 3 1) 20) rfl]
  rfl
theorem pl_size (s : ByteArray) (hs : s.size = 40) (n : Nat) (hn : n ≤ 20) : (s.extract 16 (16 + n)).size = n := by
  rw [← size_list, ext_seg s 16 _ n rfl, RecMath.seg_len (list40 hs) _ _ (by omega)]
theorem eq_bytes (a b : ByteArray) (l m : List UInt8) (ha : a.data.toList = l) (hb : b.data.toList = m) : (a.toList == b.toList) = (l == m) := by
  rw [ByteArray.toList_eq, ByteArray.toList_eq, ha, hb]
theorem form_bits (s : ByteArray) (n : Nat) (hn : n = min (RecMath.field s.data.toList 3 1) 20) : RecMath.formB s.data.toList =
    (((s.extract 0 2).toList == (⟨#[90, 65]⟩ : ByteArray).toList) && (RecMath.field s.data.toList 3 1 == n) && (RecMath.field s.data.toList 15 1 == 0) && ((s.extract (16 + n) 36).toList == (⟨(List.replicate (20 - n) (0 : UInt8)).toArray⟩ : ByteArray).toList)) := by
  rw [eq_bytes _ _ (s.data.toList.take 2) [90, 65] (by rw [ext_list]; rfl) rfl, eq_bytes _ _ (RecMath.seg s.data.toList (16 + n) (20 - n)) (List.replicate (20 - n) 0) (ext_seg s _ _ _ (by omega)) (toList_mk _)]
  subst hn
  rfl
set_option maxHeartbeats 1000000 in
theorem decode_no (s : ByteArray) (hs : s.size = 40) (h : RecMath.field s.data.toList 36 4 = CrcMath.crc 0 (s.data.toList.take 36)) (hc : RecMath.checkE (RecMath.read s.data.toList) ≠ 0) (w : World) :
    Calls Try.prog 28 #[.string s] w fun e w' => e = .returned (.tuple #[.agg #[.int .i64 0, .int .i64 0, .int .i64 0, .int .i64 0, .string ⟨#[]⟩], .int .i64 3]) ∧ Below w.heap.size w w' := by
  obtain ⟨n, hn⟩ : ∃ n, n = min (RecMath.field s.data.toList 3 1) 20 := ⟨_, rfl⟩
  have hse := fun w g hg => seal36 s hs w g hg
  rw [seal_same s hs h] at hse
  have hi := fun w => imageIn_ok s hs n hn w
  have hk := check_any (RecMath.field s.data.toList 2 1 : Nat) (RecMath.field s.data.toList 4 4 : Nat) (RecMath.field s.data.toList 8 6 : Nat) (RecMath.field s.data.toList 14 1 : Nat) (s.extract 16 (16 + n))
  rw [← read_mk s n hn] at hk
  have HS := Lib.hid hse
  have hd : ((s.size : Int) != 40) = false := by rw [hs]; rfl
  have b1 : (36 : Int) ≤ (s.size : Int) := by omega
  clear hse hs h hn
  generalize RecMath.checkE (RecMath.read s.data.toList) = E at *
  generalize RecMath.field s.data.toList 3 1 = F3 at *
  generalize RecMath.field s.data.toList 15 1 = F15 at *
  generalize RecMath.field s.data.toList 2 1 = F2 at *
  generalize RecMath.field s.data.toList 4 4 = F4 at *
  generalize RecMath.field s.data.toList 8 6 = F8 at *
  generalize RecMath.field s.data.toList 14 1 = F14 at *
  generalize s.extract 0 2 = M at *
  generalize s.extract (16 + n) 36 = PD at *
  generalize s.extract 16 (16 + n) = PL at *
  have hE : (E != 0) = true := by simpa using hc
  have HI := Lib.hid hi
  have HK := Lib.hid hk
  clear hi hk hc
  go_enter Try.func28, Try.ntmps28
  go_wp2_with (first
    | (go_at_call 37; ((with_reducible refine (HS.out _ _ (by simp)).mono ?_); rintro e w1 ⟨rfl, hb1⟩; have hg1 := heap_old hb1 (g := w.heap.size) (by simp) (heap_alloc_new w _)))
    | (go_at_call 38; ((with_reducible refine (HI.out _).mono ?_); rintro e w2 ⟨rfl, hb2⟩)))
  have hz1 : w.heap.size + 1 ≤ w1.heap.size := by have := hb1.size; simpa using this
  have hg2 := heap_old hb2 (g := w.heap.size) (by omega) hg1
  have hz2 : w1.heap.size ≤ w2.heap.size := hb2.size
  refine Plan.start (Held (w2.heap.size + 1) (w2.alloc (.cells #[.string M, .int .i64 (F3 : Nat), .int .i64 (F15 : Nat), .string PD, .int .i64 (F2 : Nat), .int .i64 (F4 : Nat), .int .i64 (F8 : Nat), .int .i64 (F14 : Nat), .string PL] 66))) [(0, true), (1, true), (2, false), (3, true), (4, true), (5, true), (6, true), (7, true), (8, false), (9, true), (10, true)] (by kernel_rfl) (by kernel_rfl) (by kernel_rfl) (by kernel_rfl) held_same ?_
  simp only [List.map_cons, List.map_nil, List.getElem?_toArray, List.getElem?_cons_zero, List.getElem?_cons_succ]
  repeat (first | (refine Plan.take ?_ (by rfl) ?_ ?_; rotate_left; (· rintro w9 ⟨hS9, -⟩; go_simp; (try rw [if_neg (by omega)]); all_goals (with_reducible rfl)); simp only [Act.put, List.setIfInBounds_toArray, List.set_cons_zero, List.set_cons_succ]) | (refine Plan.pass (by rfl) ?_; simp only [Act.put, List.setIfInBounds_toArray, List.set_cons_zero, List.set_cons_succ]))
  have hS0 : Held (w2.heap.size + 1) (w2.alloc (.cells #[.string M, .int .i64 (F3 : Nat), .int .i64 (F15 : Nat), .string PD, .int .i64 (F2 : Nat), .int .i64 (F4 : Nat), .int .i64 (F8 : Nat), .int .i64 (F14 : Nat), .string PL] 66)) (w2.alloc (.cells #[.string M, .int .i64 (F3 : Nat), .int .i64 (F15 : Nat), .string PD, .int .i64 (F2 : Nat), .int .i64 (F4 : Nat), .int .i64 (F8 : Nat), .int .i64 (F14 : Nat), .string PL] 66)).drew := held_same
  refine Plan.call (by rfl) 39 _ ?_ (HK.out _) ?_
  · go_simp
  rintro e w3 ⟨rfl, hb3⟩
  have hS3 := held_call (by simp) hS0 hb3
  refine ⟨_, rfl, hS3, ?_⟩
  simp only [Act.put, List.setIfInBounds_toArray, List.set_cons_zero, List.set_cons_succ]
  repeat (first | (refine Plan.take ?_ (by rfl) ?_ ?_; rotate_left; (· rintro w9 ⟨hS9, -⟩; go_simp; (try rw [if_neg (by omega)]); all_goals (with_reducible rfl)); simp only [Act.put, List.setIfInBounds_toArray, List.set_cons_zero, List.set_cons_succ]) | (refine Plan.pass (by rfl) ?_; simp only [Act.put, List.setIfInBounds_toArray, List.set_cons_zero, List.set_cons_succ]))
  refine Plan.pass' (by rfl) hS3 ?_
  simp only [Act.put, List.setIfInBounds_toArray, List.set_cons_zero, List.set_cons_succ]
  repeat (first | (refine Plan.take ?_ (by rfl) ?_ ?_; rotate_left; (· rintro w9 ⟨hS9, -⟩; go_simp; (try rw [if_neg (by omega)]); all_goals (with_reducible rfl)); simp only [Act.put, List.setIfInBounds_toArray, List.set_cons_zero, List.set_cons_succ]) | (refine Plan.pass (by rfl) ?_; simp only [Act.put, List.setIfInBounds_toArray, List.set_cons_zero, List.set_cons_succ]))
  refine Plan.ends ?_
  have hg3 := heap_old hS3.2 (g := w.heap.size) (by omega) ((Below.heap_alloc w2 _ _ (by omega)).trans hg2)
  go_wp2_with (refine wpList_store_row rfl 24 _ _ rfl w.heap.size _ rfl rfl _ _ hg3 rec_info rfl (by simp [Value.oneCell']) ?_)
  have hbb : Below w.heap.size w w3 := ((((Below.refl _ _).alloc (Nat.le_refl _) _).trans (hb1.mono (by simp))).trans (hb2.mono (by omega))).trans (((Below.refl _ _).alloc (by omega) _).trans (hS3.2.mono (by omega)))
  exact bodyPost_ret (Plan.results_cell_tmp (p := 2) (q := 3) rfl _ _ _ _ _ _ _ rfl (setRow_heap w3 _ _ _ _ _ hg3) Try.underlying24 rfl rec_info) rfl ⟨rfl, below_setRow hbb (Nat.le_refl _) _⟩
theorem back_bytes (s : ByteArray) : (⟨s.data.toList.toArray⟩ : ByteArray) = s := by simp
theorem bits_if (w : World) (M PD Z : ByteArray) (F3 n F15 : Nat) (B : Bool) (h : B = ((M.toList == (⟨#[90, 65]⟩ : ByteArray).toList) && (F3 == n) && (F15 == 0) && (PD.toList == Z.toList))) :
    (if M.toList = [90, 65] then
      if (F3 : Int) = (n : Int) then
        if F15 = 0 then
          if PD.toList = Z.toList then Result.ok (Next.value (Value.bool false)) w
          else Result.ok (Next.value (Value.bool true)) w
        else Result.ok (Next.value (Value.bool true)) w
      else Result.ok (Next.value (Value.bool true)) w
    else Result.ok (Next.value (Value.bool true)) w) =
    Result.ok (Next.value (Value.bool (!B))) w := by
  have e : (⟨#[90, 65]⟩ : ByteArray).toList = [90, 65] := by rw [ByteArray.toList_eq]
  rw [h, e]
  by_cases h1 : M.toList = [90, 65]
  · by_cases h2 : F3 = n
    · by_cases h3 : F15 = 0
      · by_cases h4 : PD.toList = Z.toList
        · simp [h1, h2, h3, h4]
        · simp [h1, h2, h3, h4]
      · simp [h1, h2, h3]
    · have h2' : ¬ (F3 : Int) = (n : Int) := by omega
      simp [h1, h2, h2']
  · simp [h1]
set_option maxHeartbeats 1000000 in
theorem decode_yes (s : ByteArray) (hs : s.size = 40) (h : RecMath.field s.data.toList 36 4 = CrcMath.crc 0 (s.data.toList.take 36)) (hc : RecMath.checkE (RecMath.read s.data.toList) = 0) (w : World) :
    Calls Try.prog 28 #[.string s] w fun e w' => e = .returned (.tuple #[.agg (recV (if RecMath.formB s.data.toList = true then RecMath.read s.data.toList else RecMath.Rec.zero)), .int .i64 (if RecMath.formB s.data.toList = true then 0 else 3)]) ∧ Below w.heap.size w w' := by
  obtain ⟨n, hn⟩ : ∃ n, n = min (RecMath.field s.data.toList 3 1) 20 := ⟨_, rfl⟩
  have hn20 : n ≤ 20 := by omega
  have hse := fun w g hg => seal36 s hs w g hg
  rw [seal_same s hs h] at hse
  have hi := fun w => imageIn_ok s hs n hn w
  have hk := check_any (RecMath.field s.data.toList 2 1 : Nat) (RecMath.field s.data.toList 4 4 : Nat) (RecMath.field s.data.toList 8 6 : Nat) (RecMath.field s.data.toList 14 1 : Nat) (s.extract 16 (16 + n))
  rw [← read_mk s n hn, hc] at hk
  have hz := pl_size s hs n hn20
  have ho := fun w => imageOf_ok (RecMath.field s.data.toList 2 1 : Nat) (RecMath.field s.data.toList 4 4 : Nat) (RecMath.field s.data.toList 8 6 : Nat) (RecMath.field s.data.toList 14 1 : Nat) (s.extract 16 (16 + n)) w (by omega)
  rw [hz] at ho
  have hf := form_bits s n hn
  have hr := congrArg recV (read_mk s n hn)
  have HS := Lib.hid hse
  have hd : ((s.size : Int) != 40) = false := by rw [hs]; rfl
  have b1 : (36 : Int) ≤ (s.size : Int) := by omega
  clear hse hs h hn hc hz hn20
  generalize RecMath.formB s.data.toList = B at *
  generalize RecMath.read s.data.toList = RD at *
  simp only [recV, mk] at hr
  rw [back_bytes] at hr
  generalize RecMath.field s.data.toList 3 1 = F3 at *
  generalize RecMath.field s.data.toList 15 1 = F15 at *
  generalize RecMath.field s.data.toList 2 1 = F2 at *
  generalize RecMath.field s.data.toList 4 4 = F4 at *
  generalize RecMath.field s.data.toList 8 6 = F8 at *
  generalize RecMath.field s.data.toList 14 1 = F14 at *
  generalize s.extract 0 2 = M at *
  generalize s.extract (16 + n) 36 = PD at *
  generalize s.extract 16 (16 + n) = PL at *
  generalize (⟨(List.replicate (20 - n) (0 : UInt8)).toArray⟩ : ByteArray) = Z at *
  have HF := Lib.hid hf
  have HR := Lib.hid hr
  have HI := Lib.hid hi
  have HK := Lib.hid hk
  have HO := Lib.hid ho
  clear hi hk ho hf hr
  go_enter Try.func28, Try.ntmps28
  go_wp2_with (first
    | (go_at_call 37; ((with_reducible refine (HS.out _ _ (by simp)).mono ?_); rintro e w1 ⟨rfl, hb1⟩; have hg1 := heap_old hb1 (g := w.heap.size) (by simp) (heap_alloc_new w _)))
    | (go_at_call 38; ((with_reducible refine (HI.out _).mono ?_); rintro e w2 ⟨rfl, hb2⟩)))
  have hz1 : w.heap.size + 1 ≤ w1.heap.size := by have := hb1.size; simpa using this
  have hg2 := heap_old hb2 (g := w.heap.size) (by omega) hg1
  have hz2 : w1.heap.size ≤ w2.heap.size := hb2.size
  refine Plan.start (Held (w2.heap.size + 1) (w2.alloc (.cells #[.string M, .int .i64 (F3 : Nat), .int .i64 (F15 : Nat), .string PD, .int .i64 (F2 : Nat), .int .i64 (F4 : Nat), .int .i64 (F8 : Nat), .int .i64 (F14 : Nat), .string PL] 66))) [(0, true), (1, true), (2, false), (3, true), (4, true), (5, true), (6, true), (7, true), (8, false), (9, true), (10, true)] (by kernel_rfl) (by kernel_rfl) (by kernel_rfl) (by kernel_rfl) held_same ?_
  simp only [List.map_cons, List.map_nil, List.getElem?_toArray, List.getElem?_cons_zero, List.getElem?_cons_succ]
  repeat (first | (refine Plan.take ?_ (by rfl) ?_ ?_; rotate_left; (· rintro w9 ⟨hS9, -⟩; go_simp; (try rw [if_neg (by omega)]); all_goals (with_reducible rfl)); simp only [Act.put, List.setIfInBounds_toArray, List.set_cons_zero, List.set_cons_succ]) | (refine Plan.pass (by rfl) ?_; simp only [Act.put, List.setIfInBounds_toArray, List.set_cons_zero, List.set_cons_succ]))
  have hS0 : Held (w2.heap.size + 1) (w2.alloc (.cells #[.string M, .int .i64 (F3 : Nat), .int .i64 (F15 : Nat), .string PD, .int .i64 (F2 : Nat), .int .i64 (F4 : Nat), .int .i64 (F8 : Nat), .int .i64 (F14 : Nat), .string PL] 66)) (w2.alloc (.cells #[.string M, .int .i64 (F3 : Nat), .int .i64 (F15 : Nat), .string PD, .int .i64 (F2 : Nat), .int .i64 (F4 : Nat), .int .i64 (F8 : Nat), .int .i64 (F14 : Nat), .string PL] 66)).drew := held_same
  refine Plan.call (by rfl) 39 _ ?_ (HK.out _) ?_
  · go_simp
  rintro e w3 ⟨rfl, hb3⟩
  have hS3 := held_call (by simp) hS0 hb3
  refine ⟨_, rfl, hS3, ?_⟩
  simp only [Act.put, List.setIfInBounds_toArray, List.set_cons_zero, List.set_cons_succ]
  repeat (first | (refine Plan.take ?_ (by rfl) ?_ ?_; rotate_left; (· rintro w9 ⟨hS9, -⟩; go_simp; (try rw [if_neg (by omega)]); all_goals (with_reducible rfl)); simp only [Act.put, List.setIfInBounds_toArray, List.set_cons_zero, List.set_cons_succ]) | (refine Plan.pass (by rfl) ?_; simp only [Act.put, List.setIfInBounds_toArray, List.set_cons_zero, List.set_cons_succ]))
  refine Plan.call (by rfl) 40 _ ?_ (HO.out _) ?_
  · go_simp
  rintro e w4 ⟨rfl, hb4⟩
  have hS4 := held_call (by simp) hS3 hb4
  refine ⟨_, rfl, hS4, ?_⟩
  simp only [Act.put, List.setIfInBounds_toArray, List.set_cons_zero, List.set_cons_succ]
  refine Plan.take (.bool (!B)) (by rfl) ?_ ?_
  · rintro w9 ⟨hS9, -⟩; go_simp
    exact bits_if w9 M PD Z F3 n F15 B HF.out
  simp only [Act.put, List.setIfInBounds_toArray, List.set_cons_zero, List.set_cons_succ]
  repeat (first | (refine Plan.take ?_ (by rfl) ?_ ?_; rotate_left; (· rintro w9 ⟨hS9, -⟩; go_simp; (try rw [if_neg (by omega)]); all_goals (with_reducible rfl)); simp only [Act.put, List.setIfInBounds_toArray, List.set_cons_zero, List.set_cons_succ]) | (refine Plan.pass (by rfl) ?_; simp only [Act.put, List.setIfInBounds_toArray, List.set_cons_zero, List.set_cons_succ]))
  refine Plan.ends ?_
  have hg4 := heap_old hS4.2 (g := w.heap.size) (by omega) ((Below.heap_alloc w2 _ _ (by omega)).trans hg2)
  have hbb : Below w.heap.size w w4 := ((((Below.refl _ _).alloc (Nat.le_refl _) _).trans (hb1.mono (by simp))).trans (hb2.mono (by omega))).trans (((Below.refl _ _).alloc (by omega) _).trans (hS4.2.mono (by omega)))
  have hrow := heap_old hS4.2 (g := w2.heap.size) (by omega) (heap_alloc_new w2 _)
  have c4 := cell_of_row _ _ 4 _ _ _ hrow
  have c5 := cell_of_row _ _ 5 _ _ _ hrow
  have c6 := cell_of_row _ _ 6 _ _ _ hrow
  have c7 := cell_of_row _ _ 7 _ _ _ hrow
  have c8 := cell_of_row _ _ 8 _ _ _ hrow
  simp only [List.getElem?_toArray, List.getElem?_cons_zero, List.getElem?_cons_succ] at c4 c5 c6 c7 c8
  have HG := Lib.hid hg4
  clear hrow hg1 hg2 hg4
  cases B
  · go_wp2_with (refine wpList_store_row rfl 24 _ _ rfl w.heap.size _ rfl rfl _ _ HG.out rec_info rfl (by simp [Value.oneCell']) ?_)
    exact bodyPost_ret (Plan.results_cell_tmp (p := 2) (q := 3) rfl _ _ _ _ _ _ _ rfl (setRow_heap w4 _ _ _ _ _ HG.out) Try.underlying24 rfl rec_info) rfl ⟨rfl, below_setRow hbb (Nat.le_refl _) _⟩
  · go_wp2_with (refine wpList_store_row rfl 24 _ _ rfl w.heap.size _ rfl rfl _ _ HG.out rec_info rfl (by simp [Value.oneCell']) ?_)
    exact bodyPost_ret (Plan.results_cell_tmp (p := 2) (q := 3) rfl _ _ _ _ _ _ _ rfl (setRow_heap w4 _ _ _ _ _ HG.out) Try.underlying24 rfl rec_info) rfl ⟨(congrArg (fun c => Ending.returned (.tuple #[.agg c, .int .i64 0])) HR.out).symm, below_setRow hbb (Nat.le_refl _) _⟩
/-- Decode, for any bytes -/
theorem decode_any (s : ByteArray) (w : World) :
    Calls Try.prog 28 #[.string s] w fun e w' => e = .returned (.tuple #[.agg (recV (RecMath.dec s.data.toList)), .int .i64 (RecMath.decE s.data.toList)]) ∧ Below w.heap.size w w' := by
  by_cases hs : s.size = 40
  · have hl := list40 hs
    by_cases h : RecMath.field s.data.toList 36 4 = CrcMath.crc 0 (s.data.toList.take 36)
    · have hE := RecMath.decE_form hl h
      by_cases hc : RecMath.checkE (RecMath.read s.data.toList) = 0
      · have := decode_yes s hs h hc w
        by_cases hf : RecMath.formB s.data.toList = true
        · rw [if_pos hf, if_pos hf] at this
          rw [if_pos ⟨hc, hf⟩] at hE
          unfold RecMath.dec
          rw [hE, if_pos rfl]
          exact this
        · rw [if_neg hf, if_neg hf] at this
          rw [if_neg (fun h => hf h.2)] at hE
          unfold RecMath.dec
          rw [hE, if_neg (by decide)]
          exact this
      · have := decode_no s hs h hc w
        rw [if_neg (fun h => hc h.1)] at hE
        unfold RecMath.dec
        rw [hE, if_neg (by decide)]
        exact this
    · have := decode_sum s hs h w
      have hE : RecMath.decE s.data.toList = 4 := by
        unfold RecMath.decE
        rw [if_neg (by simp [hl]), if_pos h]
      unfold RecMath.dec
      rw [hE, if_neg (by decide)]
      exact this
  · have := decode_size s hs w
    have hE : RecMath.decE s.data.toList = 2 := by
      unfold RecMath.decE
      rw [if_pos (by rw [size_list]; exact hs)]
    unfold RecMath.dec
    rw [hE, if_neg (by decide)]
    exact this
end Go.Proofs.Ytjihkcjoaefppaa
