
/- The walks of the layout's Check and IsData and of the document's Check, Of and IsData. -/
import Derived.Test.YteifpflnadjjkaaLayOf
namespace Go.Proofs.Yteifpflnadjjkaa
open Go.RowKit Plan LayMath
theorem layE_agg (z s b q d h : Int) : ∃ x1 x2 x3 x4 : Int, layE z s b q d h = .agg #[.int .i64 x1, .int .i64 x2, .int .i64 x3, .int .i64 x4] ∧ (errN z s b q d h = 0 → x1 = slotN s b ∧ x2 = 2 * slotN s b ∧ x3 = dataN z s b ∧ x4 = capN z s b q) := by
  unfold layE layV
  split
  · exact ⟨_, _, _, _, rfl, fun _ => ⟨rfl, rfl, rfl, rfl⟩⟩
  · exact ⟨_, _, _, _, rfl, fun h => by contradiction⟩
set_option maxHeartbeats 1000000 in
theorem layCheck_any (z s b q d h : Int) (w : World) :
    Calls Try.prog 10 #[confV z s b q d h] w fun e w' => e = .returned (.int .i64 (errN z s b q d h)) ∧ Below w.heap.size w w' := by
  have hA := (Below.refl w.heap.size w).alloc (Nat.le_refl _) (confRow z s b q d h)
  have ho := layOf_any z s b q d h
  obtain ⟨x1, x2, x3, x4, hx, -⟩ := layE_agg z s b q d h
  unfold ofV at ho
  rw [hx] at ho
  unfold confV at *
  generalize errN z s b q d h = E at *
  have HO := Lib.hid ho
  clear ho hx
  go_enter Try.func10, Try.ntmps10
  go_wp2_with (first
    | (go_at_call 7; ((with_reducible refine (HO.out _).mono ?_); rintro e w1 ⟨rfl, hb1⟩; have b1 := hA.trans (hb1.mono hA.size); have b2 := b1.alloc b1.size (layRow x1 x2 x3 x4))))
  go_ret
  exact ⟨rfl, b2⟩
set_option maxHeartbeats 2000000 in
theorem layRefCheck_any (z s b q d h : Int) (w : World) :
    Calls Try.prog 11 #[confV z s b q d h] w fun e w' => e = .returned (.int .i64 (errN z s b q d h)) ∧ Below w.heap.size w w' := by
  have hA := (Below.refl w.heap.size w).alloc (Nat.le_refl _) (confRow z s b q d h)
  have hp := fun w h0 => layRefof_any z s b q d h w h0
  have ho := @errN_out z s b q d h
  have ht := @errN_tight z s b q d h
  have hf := @errN_fit z s b q d h
  have hn := @inR_not z s b q d h
  have hy := (@inR_iff z s b q d h).2
  unfold confV at *
  unfold layV at hp
  unfold fits at ht hf
  generalize dataN z s b = C at *
  generalize capN z s b q = D at *
  generalize slotN s b = A at *
  generalize 2 * A = B at *
  generalize errN z s b q d h = R at *
  generalize inR z s b q d h = I at *
  have HO := Lib.hid ho
  have HT := Lib.hid ht
  have HF := Lib.hid hf
  have HN := Lib.hid hn
  have HY := Lib.hid hy
  have HP := Lib.hid hp
  clear hp ho ht hf hn hy
  go_enter Try.func11, Try.ntmps11
  go_wp2_with (first
    | (go_at_call 23; ((with_reducible refine (HP.out _ (HY.out (by omega))).mono ?_); rintro e w1 ⟨rfl, hb1⟩; have b1 := hA.trans (hb1.mono hA.size); have b2 := b1.alloc b1.size (layRow A B C D); have hY : I = true := HY.out (by omega))))
  all_goals go_ret
  all_goals first
    | exact ⟨ret_i64 (HO.out (HN.out (by omega))).symm, hA⟩
    | exact ⟨ret_i64 (HF.out hY (by simp; omega)).symm, b2⟩
    | exact ⟨ret_i64 (HT.out hY (by simp; omega)).symm, b2⟩
end Go.Proofs.Yteifpflnadjjkaa
