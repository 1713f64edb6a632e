/- The walk of the statement that a record is read back from its sector, and that no sector with one bit changed is decoded. -/
import Derived.Test.YthpfkmdnpfgjlaaRecLaws
import Derived.Test.YthpfkmdnpfgjlaaMakeFlip
namespace Go.Proofs.Ythpfkmdnpfgjlaa
open Go.RowKit Plan

theorem bit_ne (k : Nat) : UInt8.ofNat (2 ^ (k % 8)) ≠ 0 := by
  intro h
  have h2 := bit_byte k
  rw [h] at h2
  have h3 : 0 < 2 ^ (k % 8) := Nat.pow_pos (by decide)
  simp at h2
  omega
theorem flip_bad (r : RecMath.Rec) (h : RecMath.checkE r = 0) (at' bit : Int) : RecMath.decE (flipL (RecMath.encL r) at' bit) = 4 := by
  have hl := RecMath.enc_length h
  obtain ⟨j, hj1, hj2⟩ : ∃ j : Nat, at' % ((RecMath.encL r).length : Int) = (j : Int) ∧ j < (RecMath.encL r).length := by
    rw [hl]
    exact ⟨(at' % 40).toNat, by omega, by omega⟩
  obtain ⟨k, hk1, hk2⟩ : ∃ k : Nat, bit % 8 = (k : Int) ∧ k < 8 := ⟨(bit % 8).toNat, by omega, by omega⟩
  rw [flipL_eq _ at' bit j k hj1 hk1 hj2]
  refine RecMath.flip_sum hl ?_ j hj2 _ (bit_ne k)
  have hb := RecMath.body_length (RecMath.check_ok h).2.2.2.2.2.2.2.2.1
  rw [show RecMath.encL r = RecMath.sealL (RecMath.body r) from if_pos h]
  exact RecMath.sum_seal hb
theorem decode_flip (r : RecMath.Rec) (h : RecMath.checkE r = 0) (at' bit : Int) (w : World) :
    Calls Try.prog 15 #[.string ⟨(flipL (RecMath.encL r) at' bit).toArray⟩] w fun e w' => e = .returned (.tuple #[.agg #[.int .i64 0, .int .i64 0, .int .i64 0, .int .i64 0, .string ⟨#[]⟩], .int .i64 4]) ∧ Below w.heap.size w w' := by
  have := decode_any ⟨(flipL (RecMath.encL r) at' bit).toArray⟩ w
  rw [toList_mk, flip_bad r h] at this
  rwa [show RecMath.dec (flipL (RecMath.encL r) at' bit) = RecMath.Rec.zero from if_neg (by rw [flip_bad r h]; decide), zero_rec] at this
set_option maxHeartbeats 2000000 in
theorem recBack_any (k b v m : Int) (p : ByteArray) (at' bit : Int) (w : World) :
    Calls Try.prog 5 #[.agg #[.int .i64 k, .int .i64 b, .int .i64 v, .int .i64 m, .string p], .int .i64 at', .int .i64 bit] w fun e w' => e = .returned (.bool true) ∧ Below w.heap.size w w' := by
  by_cases h : 100 < p.size
  · have hd : (100 : Int) < (p.size : Int) := by omega
    go_enter Try.func5, Try.ntmps5
    go_wp2_with (go_at_call 8; ((with_reducible refine (recAwake _).mono ?_); rintro e w1 ⟨rfl, hb1⟩))
    go_ret
    exact ⟨rfl, ((Below.refl _ _).alloc (Nat.le_refl _) _).trans (hb1.mono (by simp))⟩
  · have hd : decide ((100 : Int) < (p.size : Int)) = false := by simp; omega
    have g5 := check_any k b v m p
    by_cases hc : RecMath.checkE (mk k b v m p) = 0
    · have g1 := encode_any k b v m p
      have g2 := decode_enc _ hc
      have g3 := fun w => flip_any ⟨(RecMath.encL (mk k b v m p)).toArray⟩ at' bit (by rw [size_bytes, RecMath.enc_length hc]; decide) (by rw [size_bytes, RecMath.enc_length hc]; decide) w
      have g4 := decode_flip _ hc at' bit
      rw [toList_mk] at g3
      rw [hc] at g1 g5
      rw [recV_mk] at g2
      generalize (⟨(flipL (RecMath.encL (mk k b v m p)) at' bit).toArray⟩ : ByteArray) = FB at *
      generalize (⟨(RecMath.encL (mk k b v m p)).toArray⟩ : ByteArray) = SB at *
      have H1 := Lib.hid g1
      have H2 := Lib.hid g2
      have H3 := Lib.hid g3
      have H4 := Lib.hid g4
      have H5 := Lib.hid g5
      clear g1 g2 g3 g4 g5 hc h
      go_enter Try.func5, Try.ntmps5
      go_wp2_with (first
        | (go_at_call 13; ((with_reducible refine (H5.out _).mono ?_); rintro e w1 ⟨rfl, hb1⟩; have hr1 := row_on hb1 (heap_alloc_new w _) (by simp); have q1 := row5 hr1; obtain ⟨y1, c10, c11, c12, c13, c14⟩ := q1))
        | (go_at_call 9; ((with_reducible refine (H1.out _).mono ?_); rintro e w2 ⟨rfl, hb2⟩; have hr2 := row_on hb2 hr1 y1; have y2 := (row5 hr2).1))
        | (go_at_call 15; ((with_reducible refine (H2.out _).mono ?_); rintro e w3 ⟨rfl, hb3⟩; have hr3 := row_on hb3 hr2 y2; have y3 := (row5 hr3).1))
        | (go_at_call 17; ((with_reducible refine (H3.out _).mono ?_); rintro e w4 ⟨rfl, hb4⟩; have hr4 := row_on hb4 (row_al hr3 _) (by simp; omega); have hx4 := row_on hb4 (heap_alloc_new w3 _) (by simp); have y4 := (row5 hr4).1; have z4 := (row5 hx4).1))
        | (go_at_call 15; ((with_reducible refine (H4.out _).mono ?_); rintro e w5 ⟨rfl, hb5⟩; have hr5 := row_on hb5 hr4 y4; have hx5 := row_on hb5 hx4 z4; have y5 := (row5 hr5).1; have z5 := (row5 hx5).1))
        | (go_at_call 8; ((with_reducible refine (recAwake _).mono ?_); rintro e w6 ⟨rfl, hb6⟩; have hr6 := row_on hb6 (row_al hr5 _) (by simp; omega); have hx6 := row_on hb6 (row_al hx5 _) (by simp; omega); have q6 := row5 hr6; have q7 := row5 hx6; obtain ⟨y6, c60, c61, c62, c63, c64⟩ := q6; obtain ⟨z6, d60, d61, d62, d63, d64⟩ := q7)))
      go_ret
      have s1 := hb1.size
      have s2 := hb2.size
      have s3 := hb3.size
      have s4 := hb4.size
      have s5 := hb5.size
      simp only [World.size_alloc] at s1 s4
      have e1 := ((Below.refl w.heap.size w).alloc (Nat.le_refl _) _).trans (hb1.mono (by simp))
      have e3 := (e1.trans (hb2.mono (by omega))).trans (hb3.mono (by omega))
      have e5 := ((e3.alloc (by omega) _).trans (hb4.mono (by simp; omega))).trans (hb5.mono (by omega))
      exact ⟨rfl, (e5.alloc (by omega) _).trans (hb6.mono (by simp; omega))⟩
    · generalize RecMath.checkE (mk k b v m p) = E at *
      have hE : (E != 0) = true := by simpa using hc
      have H5 := Lib.hid g5
      clear g5 hc h
      go_enter Try.func5, Try.ntmps5
      go_wp2_with (first
        | (go_at_call 13; ((with_reducible refine (H5.out _).mono ?_); rintro e w1 ⟨rfl, hb1⟩))
        | (go_at_call 8; ((with_reducible refine (recAwake _).mono ?_); rintro e w6 ⟨rfl, hb6⟩)))
      go_ret
      have s1 := hb1.size
      simp only [World.size_alloc] at s1
      exact ⟨rfl, (((Below.refl w.heap.size w).alloc (Nat.le_refl _) _).trans (hb1.mono (by simp))).trans (hb6.mono (by omega))⟩
end Go.Proofs.Ythpfkmdnpfgjlaa
