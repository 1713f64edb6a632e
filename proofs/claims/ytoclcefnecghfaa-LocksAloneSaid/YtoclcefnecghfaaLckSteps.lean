
/- The walk of LocksSteps, under the program's contracts. -/
import Derived.Test.YtoclcefnecghfaaLckRaw
namespace Go.Proofs.Ytoclcefnecghfaa.Ents
open Go.RowKit Plan EntMath CntMath LckMath
theorem take_len (O : List Int) (s t : Int) : (takeL O s t).length = O.length := by unfold takeL; split <;> simp
theorem give_len (O : List Int) (s t : Int) : (giveL O s t).length = O.length := by unfold giveL; split <;> simp
theorem new_len (s : Int) : (newK s).length ≤ 8 := by
  unfold newK
  split
  · rw [List.length_replicate]; omega
  · simp
theorem word_at {w : World} {a : Option Addr} {l c : Nat} {zs : List Int} (h : IsRow .u16 w a l c zs) {i : Nat} (hi : i < l) : ∃ x B, a = some x ∧ (∀ W, Below w.heap.size w W → W.cell? (x.add i) = some (.int .u16 B)) ∧ 0 ≤ B ∧ B ≤ 65535 := by
  rcases h with ⟨_, rfl, _⟩ | ⟨x, hx, h1, _, h2, h3, h4⟩
  · omega
  · have hc := h3 i (by omega)
    have hw : (Lit.int .u16 (zs.getD i 0)).wf = true := h4 _ (by
      rw [List.getD_eq_getElem?_getD, List.getElem?_eq_getElem (by omega)]
      exact List.getElem_mem _)
    have hr : 0 ≤ zs.getD i 0 ∧ zs.getD i 0 ≤ 65535 := by
      have e1 : IntKind.u16.min = 0 := rfl
      have e2 : IntKind.u16.max = 65535 := rfl
      simp only [Lit.wf, decide_eq_true_eq, Bool.and_eq_true] at hw
      omega
    exact ⟨x, zs.getD i 0, hx, fun W hb => (hb.cell (p := x.add i) (World.block_lt_of_cell? w _ hc)).trans hc, hr⟩
set_option maxHeartbeats 16000000 in
set_option maxRecDepth 20000 in
theorem lckSteps_any (H : LocksOk) (s : Int) (a : Option Addr) (l c : Nat) (zs : List Int) (w : World) (hl : IsRow .u16 w a l c zs) :
    Calls Try.prog 4 #[.int .i64 s, .slice a l c] w fun r w' => r = .returned (.bool true) ∧ Below w.heap.size w w' := by
  have HW := Lib.hid (fun W => lckAwake_any H W)
  by_cases hm : 60 < l
  · have d1 : decide ((60 : Int) < (l : Int)) = true := by simp; omega
    have d2 : decide (60 < l) = true := by simp; omega
    have d3 : (60 : Int) < (l : Int) := by omega
    go_enter Try.func4, Try.ntmps4
    go_wp2_with (first
      | (go_at_call 7; ((with_reducible refine (HW.out _).mono ?_); rintro r9 w6 ⟨rfl, hb⟩)))
    go_ret
    exact ⟨rfl, hb⟩
  · have d1 : decide ((60 : Int) < (l : Int)) = false := by simp; omega
    have d2 : decide (60 < l) = false := by simp; omega
    have d3 : ¬ (60 : Int) < (l : Int) := by omega
    have n1 := fun W => H.new s W
    have n2 := fun W => refLNew_any s W
    have hnl := new_len s
    unfold LNewPost at n1 n2
    generalize newK s = O at *
    generalize newKE s = E at *
    have N1 := Lib.hid n1
    have N2 := Lib.hid n2
    clear n1 n2
    go_enter Try.func4, Try.ntmps4
    go_wp2_with (first
      | (go_at_call 8; ((with_reducible refine (N1.out _).mono ?_); rintro r9 w5 ⟨a1, n1, c1, rfl, l1, hb⟩; have l1 := l1.on (Same.alloc w5 (lckRow a1 n1 c1)); have r1 := heap_alloc_new w5 (lckRow a1 n1 c1); have hb := hb.alloc hb.size (lckRow a1 n1 c1); clear N1))
      | (go_at_call 9; ((with_reducible refine (N2.out _).mono ?_); rintro r9 w6 ⟨a2, n2, c2, rfl, l2, h9⟩; have l1 := ((l1.cut).on (Same.below h9)).on (Same.alloc w6 (lckRow a2 n2 c2)); have l2 := (l2.mono (G := fun b => b ≠ w6.heap.size) (fun b hb _ => by omega)).on (Same.alloc w6 (lckRow a2 n2 c2)); have hb := hb.trans (h9.mono hb.size); have kM := hb.size; have hb := hb.alloc hb.size (lckRow a2 n2 c2); have r1 := e_al (e_on h9 r1 (e_lt r1)) (lckRow a2 n2 c2); have hX := heap_alloc_new w6 (lckRow a2 n2 c2); have x1 := one_row r1; have x2 := one_row hX; clear N2 h9))
      | (go_at_call 10; ((with_reducible refine (sameInts_any _ _ _ _ _ _ _ _ _ _ l1 l2).mono ?_); rintro r9 w7 ⟨rfl, h9⟩; have lx := l2.on (Same.below h9); have hb := hb.trans (h9.mono hb.size); have hX := e_on h9 hX (e_lt hX); clear h9)))
    have hO2 := lx.length
    generalize w6.heap.size = M at *
    clear l1 l2 r1 x1 x2
    have HWD := Lib.hid (fun (i : Nat) (hi : i < l) => word_at hl hi)
    clear hl
    go_loopw [9] (fun x wr => ∃ (j : Nat) (O : List Int) (a2 : Option Addr) (n2 c2 : Nat), x = .int .i64 (j : Int) ∧ j ≤ l ∧ O.length = n2 ∧ n2 ≤ 8 ∧ wr.heap[M]? = some (lckRow a2 n2 c2) ∧ IList wr (fun b => b ≠ M) a2 n2 c2 O ∧ Below w.heap.size w wr) (fun x _ => l - (intOf x).toNat)
    case atStart => exact ⟨0, O, _, _, _, rfl, by omega, hO2, by omega, hX, lx, hb⟩
    case round =>
      clear hX lx hb
      obtain ⟨j, O, a2, n2, c2, rfl, hj, hO, hn2, hX, lx, hb⟩ := hrel
      by_cases hlt : j < l
      · obtain ⟨x, B, rfl, hcw, hB1, hB2⟩ := HWD.out j hlt
        have HB := Lib.hid hcw
        have hc := hcw _ hb
        clear hcw
        have hjI : (j : Int) < (l : Int) := by omega
        go_wp2_with fail
        refine Plan.start (fun W => W.cell? (x.add j) = some (.int .u16 B)) [(0, true), (1, true), (2, true), (3, true), (4, true), (5, true), (6, true), (7, true), (8, true), (9, true), (10, true), (11, true), (12, true), (13, true), (14, true)] (by kernel_rfl) (by kernel_rfl) (by kernel_rfl) (by kernel_rfl) hc ?_
        simp only [List.map_cons, List.map_nil, List.getElem?_toArray, List.getElem?_cons_zero, List.getElem?_cons_succ]
        repeat (first | (refine Plan.take ?_ (by rfl) ?_ ?_; rotate_left; (· rintro w9 u0; go_simp; (try rw [if_neg (by omega)]); all_goals (with_reducible rfl)); simp only [Act.put, List.setIfInBounds_toArray, List.set_cons_zero, List.set_cons_succ]) | (refine Plan.pass (by rfl) ?_; simp only [Act.put, List.setIfInBounds_toArray, List.set_cons_zero, List.set_cons_succ]))
        refine Plan.ends ?_
        have hb := hb.drew
        have hX : wr.drew.heap[M]? = _ := hX
        have lx := lx.on (w' := wr.drew) ⟨Nat.le_refl _, fun _ _ _ => rfl⟩
        have hc : wr.drew.cell? (x.add j) = _ := hc
        generalize wr.drew = w4 at *
        go_wp2_with (first
          | (go_at_call 6; ((with_reducible refine (lckAgree_any H _ O _ _ _ _ _ _ lx (by omega)).mono ?_); rintro r9 w5 ⟨rfl, h9⟩; have lx := lx.on (Same.below h9); have hb := hb.trans (h9.mono hb.size); have hX := e_on h9 hX (e_lt hX); have hc := HB.out _ hb; clear h9))
          | ((with_reducible refine Plan.load_lit 24 (.tmp 7) (M) ?_ hX Try.underlying24 ?_ ?_ ?_); (· rfl); (· rfl); (· exact lck_info); simp only [Act.put, List.setIfInBounds_toArray, List.set_cons_zero, List.set_cons_succ])
          | (go_at_call 11; ((with_reducible refine (refTake_lck _ _ _ _ _ _ _ _ lx.cut).mono ?_); rintro r9 w6 ⟨a3, n3, c3, rfl, l3, h9⟩; have e3 := l3.length; rw [take_len, hO] at e3; have lx := l3.mono (G := fun b => b ≠ M) (fun b _ h => by have h8 := e_lt hX; rcases h with h | h; (· exact h.1); (· omega)); have hb := hb.trans (h9.mono hb.size); have hX := e_on h9 hX (e_lt hX); clear l3 h9))
          | (go_at_call 12; ((with_reducible refine (refGive_lck _ _ _ _ _ _ _ _ lx.cut).mono ?_); rintro r9 w6 ⟨a3, n3, c3, rfl, l3, h9⟩; have e3 := l3.length; rw [give_len, hO] at e3; have lx := l3.mono (G := fun b => b ≠ M) (fun b _ h => by have h8 := e_lt hX; rcases h with h | h; (· exact h.1); (· omega)); have hb := hb.trans (h9.mono hb.size); have hX := e_on h9 hX (e_lt hX); clear l3 h9))
          | ((with_reducible refine Plan.store_lit 24 (.tmp 7) _ M ?_ hX ?_ ?_ ?_ ?_ ?_ ?_); rotate_left; (· rfl); (· rfl); (· exact lck_info); (· rfl); (· simp [Value.oneCell']); simp only [Act.put]; have hX := setRow_heap w6 M _ #[.slice a3 n3 c3] _ _ hX; have hb := below_setRow hb kM #[.slice a3 n3 c3]; have lx := lx.on (Same.row (r := M) (fun h => h rfl) #[.slice a3 n3 c3]); generalize w6.setRow M #[.slice a3 n3 c3] = w7 at *))
        all_goals
          go_roundw
          case rel => exact ⟨j + 1, _, _, _, _, by go_num, by omega, lx.length, by omega, hX, lx, hb⟩
          case measure => simp [intOf]; omega
      · obtain rfl : j = l := by omega
        have hrI : ¬ (j : Int) < (j : Int) := by omega
        go_wp2_with (first
          | (go_at_call 7; ((with_reducible refine (HW.out _).mono ?_); rintro r9 w6 ⟨rfl, h9⟩; have hb := hb.trans (h9.mono hb.size))))
        go_ret
        exact ⟨rfl, hb⟩
end Go.Proofs.Ytoclcefnecghfaa.Ents
