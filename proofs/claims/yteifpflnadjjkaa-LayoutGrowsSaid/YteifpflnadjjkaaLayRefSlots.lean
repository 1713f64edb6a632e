
/- The walk of the document's own Slots; Slots for any configuration. -/
import Derived.Test.YteifpflnadjjkaaLaySlots
namespace Go.Proofs.Yteifpflnadjjkaa
open Go.RowKit Plan LayMath
set_option maxHeartbeats 1000000 in
theorem refSlots_none (z s b q d h k : Int) (w : World) (hno : ¬ errN z s b q d h = 0 ∨ ¬ (k = 0 ∨ k = 1)) :
    Calls Try.prog 14 #[confV z s b q d h, .int .i64 k] w (SlotPost w []) := by
  have hA := (Below.refl w.heap.size w).alloc (Nat.le_refl _) (confRow z s b q d h)
  have hx0 := heap_alloc_new w (confRow z s b q d h)
  have hi := layRefCheck_any z s b q d h
  unfold confV at *
  generalize errN z s b q d h = E at *
  have HI := Lib.hid hi
  clear hi
  by_cases hE : E = 0
  · have hk := hno.resolve_left (fun h => h hE)
    have hk0 : k < 0 ∨ (0 ≤ k ∧ 1 < k) := by omega
    clear hno hk
    subst hE
    rcases hk0 with k0 | ⟨k0, k1⟩
    all_goals
      go_enter Try.func14, Try.ntmps14
      generalize hw0 : w.alloc (confRow z s b q d h) = w0 at *
      go_wp2_with (first
        | (go_at_call 11; ((with_reducible refine (HI.out _).mono ?_); rintro e w1 ⟨rfl, hb1⟩; have b1 := hA.trans (hb1.mono hA.size)))
        | ((with_reducible refine Plan.load_lit 23 (.tmp 2) w.heap.size ?_ hx0 Try.underlying23 ?_ ?_ ?_); (· rfl); (· rfl); (· exact conf_info); simp only [Act.put, List.setIfInBounds_toArray, List.set_cons_zero, List.set_cons_succ]))
      go_ret
      exact ⟨_, rfl, .inl ⟨rfl, rfl⟩, b1⟩
  · have hE2 : (E != 0) = true := by simpa using hE
    clear hno hE
    go_enter Try.func14, Try.ntmps14
    generalize hw0 : w.alloc (confRow z s b q d h) = w0 at *
    go_wp2_with (first
      | (go_at_call 11; ((with_reducible refine (HI.out _).mono ?_); rintro e w1 ⟨rfl, hb1⟩; have b1 := hA.trans (hb1.mono hA.size)))
      | ((with_reducible refine Plan.load_lit 23 (.tmp 2) w.heap.size ?_ hx0 Try.underlying23 ?_ ?_ ?_); (· rfl); (· rfl); (· exact conf_info); simp only [Act.put, List.setIfInBounds_toArray, List.set_cons_zero, List.set_cons_succ]))
    go_ret
    exact ⟨_, rfl, .inl ⟨rfl, rfl⟩, b1⟩
theorem one_cell (w : World) (V : Int) : ∀ j u, ([.int .i64 V] : List Value)[j]? = some u → (w.alloc (.cells #[.int .i64 V] 3)).cell? ((⟨w.heap.size, 0, none⟩ : Addr).add j) = some u := by
  intro j u hj
  match j, hj with
  | 0, hj => simp at hj; subst hj; rw [Addr.add_lit]; exact cell_of_row _ _ 0 _ _ _ (heap_alloc_new w (.cells #[.int .i64 V] 3))
set_option maxHeartbeats 1000000 in
set_option maxRecDepth 20000 in
theorem refSlots_some (z s b q d h k : Int) (n : Nat) (P : Int) (w : World) (hE : errN z s b q d h = 0) (hk : k = 0 ∨ k = 1) (hn : slotN s b = (n : Int)) (hP : k * (n : Int) = P) (n1 : 1 ≤ n) (n2 : n ≤ 64) :
    Calls Try.prog 14 #[confV z s b q d h, .int .i64 k] w (SlotPost w (upto P n)) := by
  have hA := (Below.refl w.heap.size w).alloc (Nat.le_refl _) (confRow z s b q d h)
  have hx0 := heap_alloc_new w (confRow z s b q d h)
  have hi := layRefCheck_any z s b q d h
  have hp := fun w => layRefof_any z s b q d h w (errN_zero hE).1
  unfold layV at hp
  rw [hE] at hi
  rw [hn] at hp
  clear hE hn
  unfold confV at *
  generalize dataN z s b = C3 at *
  generalize capN z s b q = C4 at *
  generalize 2 * (n : Int) = C2 at *
  have hfd : ∀ w : World, (Instr.field 25 (.agg #[.int .i64 (n : Int), .int .i64 C2, .int .i64 C3, .int .i64 C4]) 0).run Try.prog w = .ok (.int .i64 (n : Int)) w := fun _ => by kernel_rfl
  obtain ⟨i0, hi0, hz0, hz1, hz2⟩ := info_parts int_info
  have HI := Lib.hid hi
  have HP := Lib.hid hp
  clear hi hp
  have p0 : 0 ≤ P := by rcases hk with rfl | rfl <;> omega
  have p1 : P ≤ 64 := by rcases hk with rfl | rfl <;> omega
  have hW : wrap64 (k * (n : Int)) = P := by rw [hP]; unfold wrap64; omega
  have k0 : 0 ≤ k := by omega
  have k1 : k ≤ 1 := by omega
  clear hP hk
  have HW := Lib.hid hW
  clear hW
  go_enter Try.func14, Try.ntmps14
  generalize hw0 : w.alloc (confRow z s b q d h) = w0 at *
  go_wp2_with (first
    | (go_at_call 11; ((with_reducible refine (HI.out _).mono ?_); rintro e w1 ⟨rfl, hb1⟩; have hx1 := lay_on hb1 hx0 (lay_lt hx0); have b1 := hA.trans (hb1.mono hA.size)))
    | (go_at_call 23; ((with_reducible refine (HP.out _).mono ?_); rintro e w2 ⟨rfl, hb2⟩; have b2 := b1.trans (hb2.mono b1.size)))
    | ((with_reducible refine Plan.load_lit 23 (.tmp 2) w.heap.size ?_ hx1 Try.underlying23 ?_ ?_ ?_); (· rfl); (· rfl); (· exact conf_info); simp only [Act.put, List.setIfInBounds_toArray, List.set_cons_zero, List.set_cons_succ])
    | ((with_reducible refine Plan.load_lit 23 (.tmp 2) w.heap.size ?_ hx0 Try.underlying23 ?_ ?_ ?_); (· rfl); (· rfl); (· exact conf_info); simp only [Act.put, List.setIfInBounds_toArray, List.set_cons_zero, List.set_cons_succ]))
  go_loopw [5, 7] (fun v c wr => ∃ j : Nat, c = .int .i64 j ∧ j ≤ n ∧ wr.ownsRow w.heap.size 3 1 v j (ints (upto P j)) ∧ Below w.heap.size w wr) (fun _ c _ => n - (intOf c).toNat)
  case atStart => exact ⟨0, rfl, by omega, World.ownsRow_nil _ _ _ _, b2⟩
  case round =>
    obtain ⟨j, rfl, hj, hown, hb⟩ := hrel
    by_cases hlt : j < n
    · have hjI : (j : Int) < (n : Int) := by omega
      have hW := HW.out
      go_wp2_with (first
        | (at_builtin; refine wpList_append_own _ rfl _ _ 32 rfl w.heap.size 3 i0 (.int .i64 0) 1 8 Try.underlying32 hi0 hz0 hz1 hz2 rfl (by decide) _ _ _ rfl (hown.alloc _) ⟨wr.heap.size, 0, none⟩ 1 1 [.int .i64 (P + (j : Int))] rfl rfl (one_cell wr _) (by simp [Value.oneCell']) (by unfold maxLen; omega) (by omega) (hb.alloc hb.size (.cells #[.int .i64 (P + (j : Int))] 3)).size ?_; intro v' w4 hown4 hgrow4 hiff4))
      have b4 := (hb.alloc hb.size (.cells #[.int .i64 (P + (j : Int))] 3)).grown hgrow4 (hb.alloc hb.size (.cells #[.int .i64 (P + (j : Int))] 3)).size (fun k hk => (hown.lt k hk).1)
      rw [← ints_upto] at hown4
      clear hgrow4 hiff4
      go_roundw
      case rel => exact ⟨j + 1, by go_num, by omega, hown4, b4⟩
      case measure => simp [intOf]; omega
    · obtain rfl : j = n := by omega
      have hL := listAt_owned hown n1
      go_wp2_with fail
      go_ret
      exact ⟨_, rfl, hL, hb⟩
theorem slot_nat {s b : Int} (h1 : 1 ≤ slotN s b) : ∃ n : Nat, slotN s b = (n : Int) := ⟨(slotN s b).toNat, by omega⟩
theorem slots_any (z s b q d h k : Int) (w : World) : Calls Try.prog 13 #[confV z s b q d h, .int .i64 k] w (SlotPost w (slotsL z s b q d h k)) := by
  by_cases hy : errN z s b q d h = 0 ∧ (k = 0 ∨ k = 1)
  · obtain ⟨s1, s2, z1, z2, b1, b2, -⟩ := inR_iff.1 (errN_zero hy.1).1
    obtain ⟨l1, l2⟩ := slot_bounds s1 s2 b1 b2
    obtain ⟨n, hn⟩ := slot_nat l1
    rw [slotsL_yes hy.1 hy.2 hn]
    exact slots_some z s b q d h k n _ w hy.1 hy.2 hn rfl (by omega) (by omega)
  · have hno : ¬ errN z s b q d h = 0 ∨ ¬ (k = 0 ∨ k = 1) := by
      by_cases he : errN z s b q d h = 0
      · exact .inr (fun hk => hy ⟨he, hk⟩)
      · exact .inl he
    rw [slotsL_no hno]
    exact slots_none z s b q d h k w hno
theorem refSlots_any (z s b q d h k : Int) (w : World) : Calls Try.prog 14 #[confV z s b q d h, .int .i64 k] w (SlotPost w (slotsL z s b q d h k)) := by
  by_cases hy : errN z s b q d h = 0 ∧ (k = 0 ∨ k = 1)
  · obtain ⟨s1, s2, z1, z2, b1, b2, -⟩ := inR_iff.1 (errN_zero hy.1).1
    obtain ⟨l1, l2⟩ := slot_bounds s1 s2 b1 b2
    obtain ⟨n, hn⟩ := slot_nat l1
    rw [slotsL_yes hy.1 hy.2 hn]
    exact refSlots_some z s b q d h k n _ w hy.1 hy.2 hn rfl (by omega) (by omega)
  · have hno : ¬ errN z s b q d h = 0 ∨ ¬ (k = 0 ∨ k = 1) := by
      by_cases he : errN z s b q d h = 0
      · exact .inr (fun hk => hy ⟨he, hk⟩)
      · exact .inl he
    rw [slotsL_no hno]
    exact refSlots_none z s b q d h k w hno
end Go.Proofs.Yteifpflnadjjkaa
