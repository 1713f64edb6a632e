
/- The walks of the library's bits.Mul at small numbers, of its Repeat at a list of one number, and of the program's possible, isThread of locks. -/
import Derived.Test.YtoclcefnecghfaaLckAgree
import Derived.Laws.CopyOwn
namespace Go.Proofs.Ytoclcefnecghfaa.Ents
open Go.RowKit Plan EntMath CntMath LckMath
set_option maxHeartbeats 1000000 in
theorem mul64_one (n : Nat) (h1 : 1 ≤ n) (h2 : n ≤ 8) (w : World) : Calls Try.prog 30 #[.int .u64 1, .int .u64 (n : Int)] w fun r w' => r = .returned (.tuple #[.int .u64 0, .int .u64 (n : Int)]) ∧ w = w' := by
  rcases (show n = 1 ∨ n = 2 ∨ n = 3 ∨ n = 4 ∨ n = 5 ∨ n = 6 ∨ n = 7 ∨ n = 8 by omega) with rfl | rfl | rfl | rfl | rfl | rfl | rfl | rfl
  all_goals
    go_enter Try.func30, Try.ntmps30
    go_wp2
    go_ret2
    exact ⟨rfl, rfl⟩
set_option maxHeartbeats 1000000 in
theorem mul_one' (n : Nat) (h1 : 1 ≤ n) (h2 : n ≤ 8) (w : World) : Calls Try.prog 27 #[.int .u64 1, .int .u64 (n : Int)] w fun r w' => r = .returned (.tuple #[.int .u64 0, .int .u64 (n : Int)]) ∧ w = w' := by
  have H := Lib.hid (mul64_one n h1 h2)
  go_enter Try.func27, Try.ntmps27
  go_wp2_with (first
    | (go_at_call 30; ((with_reducible refine (H.out _).mono ?_); rintro r9 w9 ⟨rfl, rfl⟩)))
  go_ret2
  exact ⟨rfl, rfl⟩
theorem lckPossible_any (s : Int) (w : World) : Calls Try.prog 21 #[.int .i64 s] w fun r w' => r = .returned (.bool (decide (1 ≤ s ∧ s ≤ 8))) ∧ w = w' := by
  by_cases h1 : 1 ≤ s
  · by_cases h2 : s ≤ 8
    · rw [decide_eq_true (show 1 ≤ s ∧ s ≤ 8 from ⟨h1, h2⟩)]
      go_enter Try.func21, Try.ntmps21
      go_wp2
      go_ret
      exact ⟨by first | rfl | (simp; omega), rfl⟩
    · rw [decide_eq_false (show ¬ (1 ≤ s ∧ s ≤ 8) from fun h => h2 h.2)]
      go_enter Try.func21, Try.ntmps21
      go_wp2
      go_ret
      exact ⟨by first | rfl | (simp; omega), rfl⟩
  · rw [decide_eq_false (show ¬ (1 ≤ s ∧ s ≤ 8) from fun h => h1 h.1)]
    go_enter Try.func21, Try.ntmps21
    go_wp2
    go_ret
    exact ⟨by first | rfl | (simp; omega), rfl⟩
theorem lckThread_any (t : Int) (w : World) : Calls Try.prog 24 #[.int .i64 t] w fun r w' => r = .returned (.bool (decide (0 ≤ t))) ∧ w = w' := by
  go_enter Try.func24, Try.ntmps24
  go_wp2
  go_ret
  exact ⟨by first | rfl | simp, rfl⟩
/-- k numbers that have been laid, and the zeros behind them -/
def repL (n k : Nat) (v : Int) : List Int := List.replicate k v ++ List.replicate (n - k) 0
theorem rep_len {n k : Nat} {v : Int} (h : k ≤ n) : (repL n k v).length = n := by unfold repL; simp; omega
theorem rep_none (n : Nat) (v : Int) : repL n 0 v = List.replicate n 0 := by simp [repL]
theorem rep_all (n : Nat) (v : Int) : repL n n v = List.replicate n v := by simp [repL]
theorem rep_next (n k m : Nat) (v : Int) : (intC (repL n k v)).toArray.toList.take k ++ (intC (List.replicate m v) ++ (intC (repL n k v)).toArray.toList.drop (k + (intC (List.replicate m v)).length)) = intC (repL n (k + m) v) := by
  have h1 : (intC (repL n k v)).take k = intC (List.replicate k v) := by
    unfold intC repL
    rw [← List.map_take, List.take_append_of_le_length (by simp), List.take_of_length_le (by simp)]
  have h2 : (intC (repL n k v)).drop (k + (intC (List.replicate m v)).length) = intC (List.replicate (n - (k + m)) 0) := by
    unfold intC repL
    rw [← List.map_drop, List.drop_append, List.drop_of_length_le (by simp), List.nil_append, List.drop_replicate]
    congr 2
    simp
    omega
  show (intC (repL n k v)).take k ++ (intC (List.replicate m v) ++ (intC (repL n k v)).drop _) = _
  rw [h1, h2]
  unfold intC repL
  rw [← List.map_append, ← List.map_append, ← List.append_assoc, List.replicate_append_replicate]
theorem rep_cell {w : World} {g n k m : Nat} {v : Int} (h : w.heap[g]? = some (intRow (repL n k v))) (hm : m ≤ k) : ∀ j u, (intC (List.replicate m v))[j]? = some u → w.cell? ((⟨g, 0, none⟩ : Addr).add j) = some u := by
  intro j u hu
  unfold intC at hu
  rw [List.getElem?_map, List.getElem?_replicate] at hu
  by_cases hj : j < m
  · rw [if_pos hj] at hu
    obtain rfl := Option.some.inj hu
    rw [Addr.add_lit, Nat.zero_add]
    refine row_cell h ?_
    unfold repL
    rw [List.getElem?_append_left (by simp; omega), List.getElem?_replicate, if_pos (by omega)]
  · rw [if_neg hj] at hu
    cases hu
theorem run_copy_rep (w : World) (ty : TypeId) (x : Addr) (g n k m sLen sCap dLen dCap : Nat) (v : Int) (hm : m = Nat.min sLen dLen) (hg : w.heap[g]? = some (intRow (repL n k v))) (hkm : k + m ≤ n)
    (hsrc : ∀ j u, (intC (List.replicate m v))[j]? = some u → w.cell? (x.add j) = some u) :
    (Builtin.copy_ #[22, 22] ty #[.slice (some ⟨g, k, none⟩) dLen dCap, .slice (some x) sLen sCap]).run Try.prog w = .ok (goInt m) (w.setRow g (intC (repL n (k + m) v)).toArray) := by
  have hl : (intC (List.replicate m v)).length = m := by rw [intC_len]; simp
  have h := run_copy_row (P := Try.prog) w 22 22 ty 3 g k dLen dCap x sLen sCap (intC (repL n k v)).toArray 3 (intC (List.replicate m v)) Try.underlying22 Put.int_info1 hg (by rw [hl]; exact hm) hsrc (by rw [hl, List.size_toArray, intC_len, rep_len (by omega)]; exact hkm) (intC_flat _)
  rw [List.append_assoc, rep_next, hl] at h
  exact h
theorem copy_rep {w : World} {ops : Array Oper} {rest : List Oper} {a : Act} {Q : Exit → Act → World → Prop} (dst : Option Tmp) (d s : Operand) {t' : TypeId} {pos : String} {after : Array Edge}
    (x : Addr) (g n k m sLen sCap dLen dCap : Nat) (v : Int) (hd : a.eval d = .slice (some ⟨g, k, none⟩) dLen dCap) (hs : a.eval s = .slice (some x) sLen sCap) (hm : m = Nat.min sLen dLen) (hg : w.heap[g]? = some (intRow (repL n k v))) (hkm : k + m ≤ n)
    (hsrc : ∀ j u, (intC (List.replicate m v))[j]? = some u → w.cell? (x.add j) = some u)
    (h : wpList Try.prog ops Q rest (a.put dst (goInt m)) (w.setRow g (intC (repL n (k + m) v)).toArray)) :
    wpList Try.prog ops Q (⟨dst, .call { callee := .builtin .copy, args := #[d, s], argTypes := #[22, 22] }, t', pos, after, none⟩ :: rest) a w := by
  refine wpList_plain rfl fun K hK => ?_
  have hrun := run_copy_rep w t' x g n k m sLen sCap dLen dCap v hm hg hkm hsrc
  unfold Oper.wp
  simp [execOp, resolve, invoke, builtin, hd, hs, hrun, Result.andThen]
  exact hK _ _ h
theorem wp_copy_rep {w : World} {o : Oper} {a : Act} {K : Act → World → Prop} {Q : Exit → Act → World → Prop} (d s : Operand)
    (ho : o.op = .call { callee := .builtin .copy, args := #[d, s], argTypes := #[22, 22] })
    (x : Addr) (g n k m sLen sCap dLen dCap : Nat) (v : Int) (hd : a.eval d = .slice (some ⟨g, k, none⟩) dLen dCap) (hs : a.eval s = .slice (some x) sLen sCap) (hm : m = Nat.min sLen dLen) (hg : w.heap[g]? = some (intRow (repL n k v))) (hkm : k + m ≤ n)
    (hsrc : ∀ j u, (intC (List.replicate m v))[j]? = some u → w.cell? (x.add j) = some u)
    (h : K (a.put o.dst (goInt m)) (w.setRow g (intC (repL n (k + m) v)).toArray)) : o.wp Try.prog a w K Q := by
  have hrun := run_copy_rep w o.type x g n k m sLen sCap dLen dCap v hm hg hkm hsrc
  unfold Oper.wp
  simp [execOp, ho, resolve, invoke, builtin, hd, hs, hrun, Result.andThen]
  exact h
set_option maxHeartbeats 4000000 in
set_option maxRecDepth 20000 in
theorem repeat_any (v : Int) (x n : Nat) (w : World) (fr : Nat × Nat) (hx : w.heap[x]? = some (.cells #[.int .i64 v] 3 fr)) (h1 : 1 ≤ n) (h2 : n ≤ 8) :
    Calls Try.prog 22 #[.slice (some ⟨x, 0, none⟩) 1 1, .int .i64 (n : Int)] w fun r w' => ∃ g, r = .returned (.slice (some ⟨g, 0, none⟩) n n) ∧ w.heap.size ≤ g ∧ w'.heap[g]? = some (intRow (List.replicate n v)) ∧ Below w.heap.size w w' := by
  have HM := Lib.hid (fun w => mul_one' n h1 h2 w)
  have hmk := fun w => run_make_row' (P := Try.prog) 22 3 (.int .i64 0) 8 Try.underlying22 int_row rfl .i64 .i64 n (by omega) (by omega) w
  have hxl := e_lt hx
  have hg0 : decide ((n : Int) < 0) = false := by simp
  have hg1 : ¬ (n : Int) < 0 := by omega
  have hg2 : decide (9223372036854775807 < (n : Int)) = false := by simp; omega
  have hg3 : decide (9223372036854775807 < n) = false := by simp; omega
  have hwn : wrap64 (n : Int) = n := by unfold wrap64; omega
  have hun : IntKind.u64.wrap (n : Int) = n := by have e : IntKind.u64.wrap (n : Int) = (n : Int) % 18446744073709551616 := rfl; omega
  go_enter Try.func22, Try.ntmps22
  have HN := Lib.hid (⟨h1, h2⟩ : 1 ≤ n ∧ n ≤ 8)
  have HG := Lib.hid ((heap_alloc_new w (.cells (madeCells #[.int .i64 0] n) 3)).trans (congrArg some ((zero_row n).trans (by rw [← rep_none n v]))))
  have HX := Lib.hid (fun (j : Nat) u (hu : (intC (List.replicate 1 v))[j]? = some u) => (show (w.alloc (.cells (madeCells #[.int .i64 0] n) 3)).cell? ((⟨x, 0, none⟩ : Addr).add j) = some u from by
    have hj : j = 0 := by have := (List.getElem?_eq_some_iff.1 hu).1; rw [intC_len] at this; simp at this; exact this
    subst hj
    cases hu
    exact cell_of_row _ _ 0 _ _ _ (e_al hx _)))
  have HB := Lib.hid ((Below.refl w.heap.size w).alloc (Nat.le_refl _) (.cells (madeCells #[.int .i64 0] n) 3))
  clear hx
  go_wp2_with (first
    | (go_at_call 27; ((with_reducible refine (HM.out _).mono ?_); rintro r9 w9 ⟨rfl, rfl⟩))
    | ((with_reducible refine copy_rep (some 33) (.tmp 31) (.tmp 32) ⟨x, 0, none⟩ w.heap.size n 0 1 1 1 n n v ?_ ?_ ?_ HG.out ?_ HX.out ?_); (· rfl); (· rfl); (· have := HN.out; exact (Nat.min_eq_left this.1).symm); (· have := HN.out; omega); simp only [Act.put]; have G2 := setRow_heap _ w.heap.size _ (intC (repL n (0 + 1) v)).toArray _ _ HG.out; have B2 := below_setRow HB.out (Nat.le_refl _) (intC (repL n (0 + 1) v)).toArray; rw [Nat.zero_add] at G2 B2 ⊢; generalize (w.alloc (.cells (madeCells #[.int .i64 0] n) 3)).setRow w.heap.size (intC (repL n 1 v)).toArray = w2 at *))
  clear hmk HM HG HB HX
  go_loopw [8] (fun y wr => ∃ k : Nat, y = .int .i64 (k : Int) ∧ 1 ≤ k ∧ k ≤ n ∧ wr.heap[w.heap.size]? = some (intRow (repL n k v)) ∧ Below w.heap.size w wr) (fun y _ => n - (intOf y).toNat)
  case atStart => exact ⟨1, rfl, Nat.le_refl _, h1, G2, B2⟩
  case round =>
    clear G2 B2
    obtain ⟨k, rfl, hk1, hk, hg, hb⟩ := hrel
    by_cases hlt : k < n
    · have hkI : (k : Int) < (n : Int) := by omega
      have hgd := (show wr.drew.heap[w.heap.size]? = _ from hg)
      have hbd := hb.drew
      have hmn : Nat.min k (n - k) ≤ n - k := Nat.min_le_right _ _
      have hmk : Nat.min k (n - k) ≤ k := Nat.min_le_left _ _
      have hm0 : 1 ≤ Nat.min k (n - k) := Nat.le_min.2 ⟨hk1, by omega⟩
      obtain ⟨m, hm⟩ : ∃ m, m = Nat.min k (n - k) := ⟨_, rfl⟩
      rw [← hm] at hmn hmk hm0
      have hwm : IntKind.i64.wrap ((k : Int) + (m : Int)) = (k : Int) + (m : Int) := IntWalk.i64_in _ (by omega)
      replace hm := Lib.hid hm
      go_wp2_with fail
      refine Plan.start (fun _ => True) [(0, true), (1, true), (2, true), (3, true), (4, true), (5, true), (6, true), (7, false), (8, true), (9, true)] (by kernel_rfl) (by kernel_rfl) (by kernel_rfl) (by kernel_rfl) trivial ?_
      simp only [List.map_cons, List.map_nil, List.getElem?_toArray, List.getElem?_cons_zero, List.getElem?_cons_succ]
      repeat (first | (refine Plan.take ?_ (by rfl) ?_ ?_; rotate_left; (· rintro w9 -; go_simp; (try rw [if_neg (by omega)]); all_goals (with_reducible rfl)); simp only [Act.put, List.setIfInBounds_toArray, List.set_cons_zero, List.set_cons_succ]))
      refine Plan.carry (by rfl) (wp_copy_rep (.tmp 41) (.tmp 44) rfl ⟨w.heap.size, 0, none⟩ w.heap.size n k m _ _ _ _ v (by rfl) (by rfl) hm.out hgd (by omega) (rep_cell hgd hmk) ?_)
      have G3 := setRow_heap _ w.heap.size _ (intC (repL n (k + m) v)).toArray _ _ hgd
      have B3 := below_setRow hbd (Nat.le_refl _) (intC (repL n (k + m) v)).toArray
      generalize wr.drew.setRow w.heap.size (intC (repL n (k + m) v)).toArray = w3 at *
      refine ⟨trivial, ?_⟩
      simp only [Act.put, List.setIfInBounds_toArray, List.set_cons_zero, List.set_cons_succ]
      repeat (first | (refine Plan.take ?_ (by rfl) ?_ ?_; rotate_left; (· rintro w9 -; go_simp; (try rw [if_neg (by omega)]); all_goals (with_reducible rfl)); simp only [Act.put, List.setIfInBounds_toArray, List.set_cons_zero, List.set_cons_succ]))
      refine Plan.ends ?_
      go_wp2_with fail
      go_roundw
      case rel => exact ⟨k + m, by go_num, by omega, by omega, G3, B3⟩
      case measure => simp [intOf]; omega
    · obtain rfl : k = n := by omega
      have hrI : ¬ (k : Int) < (k : Int) := by omega
      go_wp2_with fail
      go_ret
      exact ⟨w.heap.size, rfl, Nat.le_refl _, by rw [← rep_all]; exact hg, hb⟩
end Go.Proofs.Ytoclcefnecghfaa.Ents
