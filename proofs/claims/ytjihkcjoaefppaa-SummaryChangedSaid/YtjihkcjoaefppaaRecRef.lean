/- The walks of the document's own encoder: Seal, Encode, for any record. -/
import Derived.Test.YtjihkcjoaefppaaRecEnc
namespace Go.Proofs.Ytjihkcjoaefppaa
open Go.RowKit Plan

theorem refSeal_any (s : ByteArray) (w : World) (h : s.size ≤ 1000000) :
    Calls Try.prog 36 #[.string s] w fun e w' => e = .returned (.string ⟨(RecMath.sealL s.data.toList).toArray⟩) ∧ Below w.heap.size w w' := by
  have hs := fun w => refsum_any s (by unfold maxLen; omega) w
  have hp := number_any (CrcMath.crc 0 s.data.toList : Nat) 4
  rw [put_crc] at hp
  have hb := seal_bytes s.data.toList
  have hsz2 := size_bytes (CodecMath.bytes (CrcMath.crc 0 s.data.toList) 4)
  rw [CodecMath.bytes_length] at hsz2
  have hcl := CrcMath.crc_lt 0 s.data.toList
  rw [show (⟨s.data.toList.toArray⟩ : ByteArray) = s by simp] at hb
  generalize (⟨(RecMath.sealL s.data.toList).toArray⟩ : ByteArray) = SS at hb ⊢
  generalize (⟨(CodecMath.bytes (CrcMath.crc 0 s.data.toList) 4).toArray⟩ : ByteArray) = CC at *
  generalize CrcMath.crc 0 s.data.toList = C at *
  have hsum : s.size + CC.size ≤ 9223372036854775807 := by omega
  have HS := Lib.hid hs
  have HP := Lib.hid hp
  have HB := Lib.hid hb
  clear hs hp hb hsz2
  go_enter Try.func36, Try.ntmps36
  go_wp2_with (first
    | (go_at_call 25; ((with_reducible refine (HS.out _).mono ?_); rintro e w2 ⟨rfl, rfl⟩))
    | (go_at_call 34; ((with_reducible refine (HP.out _).mono ?_); rintro e w3 ⟨rfl, hb3⟩)))
  go_ret
  exact ⟨by rw [HB.out]; rfl, hb3⟩

theorem chain_bytes (l1 l2 l3 l4 l5 l6 : List UInt8) : (⟨#[90, 65]⟩ : ByteArray) ++ ⟨l1.toArray⟩ ++ ⟨l2.toArray⟩ ++ ⟨l3.toArray⟩ ++ ⟨l4.toArray⟩ ++ ⟨l5.toArray⟩ ++ ⟨#[0]⟩ ++ ⟨l6.toArray⟩ = ⟨([90, 65] ++ (l1 ++ (l2 ++ (l3 ++ (l4 ++ (l5 ++ ([0] ++ l6))))))).toArray⟩ := by
  apply ByteArray.ext
  simp
theorem body_chain {k b v m : Int} {p : ByteArray} (h : RecMath.checkE (mk k b v m p) = 0) :
    [90, 65] ++ (CodecMath.putL k 1 ++ (CodecMath.putL p.size 1 ++ (CodecMath.putL b 4 ++ (CodecMath.putL v 6 ++ (CodecMath.putL m 1 ++ ([0] ++ padL p.data.toList 20)))))) = RecMath.body (mk k b v m p) := by
  rw [← body_parts h]
  unfold parts padL
  rw [size_list, show CodecMath.putL 0 1 = [0] by decide]
set_option maxHeartbeats 1000000 in
set_option maxRecDepth 20000 in
theorem refEncode_any (k b v m : Int) (p : ByteArray) (w : World) :
    Calls Try.prog 26 #[.agg #[.int .i64 k, .int .i64 b, .int .i64 v, .int .i64 m, .string p]] w fun e w' => e = .returned (.tuple #[.string ⟨(RecMath.encL (mk k b v m p)).toArray⟩, .int .i64 (RecMath.checkE (mk k b v m p))]) ∧ Below w.heap.size w w' := by
  have hc := refCheck_any k b v m p
  by_cases h : RecMath.checkE (mk k b v m p) = 0
  · have hp := (RecMath.check_ok h).2.2.2.2.2.2.2.2.1
    rw [mk_len] at hp
    have g1 := number_any k 1
    have g2 := number_any p.size 1
    have g3 := number_any b 4
    have g4 := number_any v 6
    have g5 := number_any m 1
    have g6 := fun w => refPad_any p 20 w (by decide)
    have l1 := size_bytes (CodecMath.putL k 1)
    have l2 := size_bytes (CodecMath.putL p.size 1)
    have l3 := size_bytes (CodecMath.putL b 4)
    have l4 := size_bytes (CodecMath.putL v 6)
    have l5 := size_bytes (CodecMath.putL m 1)
    have l6 := size_bytes (padL p.data.toList 20)
    have k1 := putL_len k 1 (by decide)
    have k2 := putL_len p.size 1 (by decide)
    have k3 := putL_len b 4 (by decide)
    have k4 := putL_len v 6 (by decide)
    have k5 := putL_len m 1 (by decide)
    have k6 : (padL p.data.toList 20).length ≤ 20 := by rw [padL, List.length_append, List.length_replicate, size_list]; omega
    have hch := chain_bytes (CodecMath.putL k 1) (CodecMath.putL p.size 1) (CodecMath.putL b 4) (CodecMath.putL v 6) (CodecMath.putL m 1) (padL p.data.toList 20)
    rw [body_chain h] at hch
    have hs := fun w => refSeal_any ⟨(RecMath.body (mk k b v m p)).toArray⟩ w (by rw [size_bytes, RecMath.body_length (by rw [mk_len]; exact hp)]; decide)
    rw [toList_mk] at hs
    rw [show RecMath.encL (mk k b v m p) = RecMath.sealL (RecMath.body (mk k b v m p)) from if_pos h]
    rw [h] at hc ⊢
    generalize (⟨(RecMath.sealL (RecMath.body (mk k b v m p))).toArray⟩ : ByteArray) = SS at hs ⊢
    generalize (⟨(RecMath.body (mk k b v m p)).toArray⟩ : ByteArray) = BB at hs hch
    generalize (⟨(CodecMath.putL k 1).toArray⟩ : ByteArray) = X1 at *
    generalize (⟨(CodecMath.putL p.size 1).toArray⟩ : ByteArray) = X2 at *
    generalize (⟨(CodecMath.putL b 4).toArray⟩ : ByteArray) = X3 at *
    generalize (⟨(CodecMath.putL v 6).toArray⟩ : ByteArray) = X4 at *
    generalize (⟨(CodecMath.putL m 1).toArray⟩ : ByteArray) = X5 at *
    generalize (⟨(padL p.data.toList 20).toArray⟩ : ByteArray) = X6 at *
    have z1 : X1.size ≤ 7 := by omega
    have z2 : X2.size ≤ 7 := by omega
    have z3 : X3.size ≤ 7 := by omega
    have z4 : X4.size ≤ 7 := by omega
    have z5 : X5.size ≤ 7 := by omega
    have z6 : X6.size ≤ 20 := by omega
    have y0 : (⟨#[90, 65]⟩ : ByteArray).size = 2 := rfl
    have y7 : (⟨#[0]⟩ : ByteArray).size = 1 := rfl
    have s1 : 2 + X1.size ≤ 9223372036854775807 := by omega
    have s2 : 2 + X1.size + X2.size ≤ 9223372036854775807 := by omega
    have s3 : 2 + X1.size + X2.size + X3.size ≤ 9223372036854775807 := by omega
    have s4 : 2 + X1.size + X2.size + X3.size + X4.size ≤ 9223372036854775807 := by omega
    have s5 : 2 + X1.size + X2.size + X3.size + X4.size + X5.size ≤ 9223372036854775807 := by omega
    have s6 : 2 + X1.size + X2.size + X3.size + X4.size + X5.size + 1 ≤ 9223372036854775807 := by omega
    have s7 : 2 + X1.size + X2.size + X3.size + X4.size + X5.size + 1 + X6.size ≤ 9223372036854775807 := by omega
    clear y0 y7 z1 z2 z3 z4 z5 z6 l1 l2 l3 l4 l5 l6 k1 k2 k3 k4 k5 k6
    have HC := Lib.hid hc
    have H1 := Lib.hid g1
    have H2 := Lib.hid g2
    have H3 := Lib.hid g3
    have H4 := Lib.hid g4
    have H5 := Lib.hid g5
    have H6 := Lib.hid g6
    have HS := Lib.hid hs
    have HB := Lib.hid hch
    clear hc g1 g2 g3 g4 g5 g6 hs hch h
    go_enter Try.func26, Try.ntmps26
    go_wp2_with (first
      | (go_at_call 33; ((with_reducible refine (HC.out _).mono ?_); rintro e w1 ⟨rfl, hb1⟩; obtain ⟨hc1, hf1⟩ := bcell hb1)))
    have hz : w.heap.size + 1 ≤ w1.heap.size := by have := hb1.size; simpa using this
    refine Plan.start (Held (w.heap.size + 1) w1) [(0, true), (1, true), (4, true), (5, true), (6, true), (9, true), (10, true), (13, true), (14, true), (17, true), (18, true), (22, true), (23, true), (2, false), (3, true), (7, false), (8, true), (11, false), (12, true), (15, false), (16, true), (19, false), (20, true), (21, true), (24, false), (25, true), (26, true)] (by kernel_rfl) (by kernel_rfl) (by kernel_rfl) (by kernel_rfl) held_same ?_
    simp only [List.map_cons, List.map_nil, List.getElem?_toArray, List.getElem?_cons_zero, List.getElem?_cons_succ]
    repeat (refine Plan.take ?_ (by rfl) ?_ ?_; rotate_left; (· rintro w9 ⟨hS9, -⟩; go_simp; (try rw [if_neg (by omega)]); all_goals (with_reducible rfl)); simp only [Act.put, List.setIfInBounds_toArray, List.set_cons_zero, List.set_cons_succ])
    have hS1 : Held (w.heap.size + 1) w1 w1.drew := held_same
    refine Plan.call (by rfl) 34 _ ?_ (H1.out _) ?_
    · go_simp
    rintro e w2 ⟨rfl, hb2⟩
    have hS2 := held_call hz hS1 hb2
    refine ⟨_, rfl, hS2, ?_⟩
    simp only [Act.put, List.setIfInBounds_toArray, List.set_cons_zero, List.set_cons_succ]
    repeat (refine Plan.take ?_ (by rfl) ?_ ?_; rotate_left; (· rintro w9 ⟨hS9, -⟩; go_simp; (try rw [if_neg (by omega)]); all_goals (with_reducible rfl)); simp only [Act.put, List.setIfInBounds_toArray, List.set_cons_zero, List.set_cons_succ])
    refine Plan.call (by rfl) 34 _ ?_ (H2.out _) ?_
    · go_simp
    rintro e w3 ⟨rfl, hb3⟩
    have hS3 := held_call hz hS2 hb3
    refine ⟨_, rfl, hS3, ?_⟩
    simp only [Act.put, List.setIfInBounds_toArray, List.set_cons_zero, List.set_cons_succ]
    repeat (refine Plan.take ?_ (by rfl) ?_ ?_; rotate_left; (· rintro w9 ⟨hS9, -⟩; go_simp; (try rw [if_neg (by omega)]); all_goals (with_reducible rfl)); simp only [Act.put, List.setIfInBounds_toArray, List.set_cons_zero, List.set_cons_succ])
    refine Plan.call (by rfl) 34 _ ?_ (H3.out _) ?_
    · go_simp
    rintro e w4 ⟨rfl, hb4⟩
    have hS4 := held_call hz hS3 hb4
    refine ⟨_, rfl, hS4, ?_⟩
    simp only [Act.put, List.setIfInBounds_toArray, List.set_cons_zero, List.set_cons_succ]
    repeat (refine Plan.take ?_ (by rfl) ?_ ?_; rotate_left; (· rintro w9 ⟨hS9, -⟩; go_simp; (try rw [if_neg (by omega)]); all_goals (with_reducible rfl)); simp only [Act.put, List.setIfInBounds_toArray, List.set_cons_zero, List.set_cons_succ])
    refine Plan.call (by rfl) 34 _ ?_ (H4.out _) ?_
    · go_simp
    rintro e w5 ⟨rfl, hb5⟩
    have hS5 := held_call hz hS4 hb5
    refine ⟨_, rfl, hS5, ?_⟩
    simp only [Act.put, List.setIfInBounds_toArray, List.set_cons_zero, List.set_cons_succ]
    repeat (refine Plan.take ?_ (by rfl) ?_ ?_; rotate_left; (· rintro w9 ⟨hS9, -⟩; go_simp; (try rw [if_neg (by omega)]); all_goals (with_reducible rfl)); simp only [Act.put, List.setIfInBounds_toArray, List.set_cons_zero, List.set_cons_succ])
    refine Plan.call (by rfl) 34 _ ?_ (H5.out _) ?_
    · go_simp
    rintro e w6 ⟨rfl, hb6⟩
    have hS6 := held_call hz hS5 hb6
    refine ⟨_, rfl, hS6, ?_⟩
    simp only [Act.put, List.setIfInBounds_toArray, List.set_cons_zero, List.set_cons_succ]
    repeat (refine Plan.take ?_ (by rfl) ?_ ?_; rotate_left; (· rintro w9 ⟨hS9, -⟩; go_simp; (try rw [if_neg (by omega)]); all_goals (with_reducible rfl)); simp only [Act.put, List.setIfInBounds_toArray, List.set_cons_zero, List.set_cons_succ])
    refine Plan.call (by rfl) 35 _ ?_ (H6.out _) ?_
    · go_simp
    rintro e w7 ⟨rfl, hb7⟩
    have hS7 := held_call hz hS6 hb7
    refine ⟨_, rfl, hS7, ?_⟩
    simp only [Act.put, List.setIfInBounds_toArray, List.set_cons_zero, List.set_cons_succ]
    repeat (refine Plan.take ?_ (by rfl) ?_ ?_; rotate_left; (· rintro w9 ⟨hS9, -⟩; go_simp; (try rw [if_neg (by omega)]); all_goals (with_reducible rfl)); simp only [Act.put, List.setIfInBounds_toArray, List.set_cons_zero, List.set_cons_succ])
    refine Plan.ends ?_
    go_wp2_with (go_at_call 36; rw [HB.out]; ((with_reducible refine (HS.out _).mono ?_); rintro e w8 ⟨rfl, hb8⟩))
    go_ret2
    exact ⟨rfl, ((((Below.refl _ _).alloc (Nat.le_refl _) _).trans (hb1.mono (by simp))).trans ((hS7.2.mono (Nat.le_succ _)))).trans (hb8.mono (by have := hS7.2.size; omega))⟩
  · rw [show RecMath.encL (mk k b v m p) = [] from if_neg h]
    generalize RecMath.checkE (mk k b v m p) = E at *
    have hE : (E != 0) = true := by simpa using h
    have HC := Lib.hid hc
    clear hc h
    go_enter Try.func26, Try.ntmps26
    go_wp2_with (first
      | (go_at_call 33; ((with_reducible refine (HC.out _).mono ?_); rintro e w1 ⟨rfl, hb1⟩; obtain ⟨hc1, hf1⟩ := bcell hb1)))
    go_ret2
    exact ⟨rfl, ((Below.refl _ _).alloc (Nat.le_refl _) _).trans (hb1.mono (by simp))⟩

end Go.Proofs.Ytjihkcjoaefppaa
