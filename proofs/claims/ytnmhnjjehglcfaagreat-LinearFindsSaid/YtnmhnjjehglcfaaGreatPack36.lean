/- Texts that belong together, part 36. -/
import Derived.Test.YtnmhnjjehglcfaaGreatPack35
import Derived.Lib.SliceRun
import Derived.Laws.CopyOwn

/- The walks of the library's Repeat at a list of one string, and of its Clone at strings. -/
namespace Go.Proofs.YtnmhnjjehglcfaaGreat.Reps
open Go.RowKit Plan EntMath CntMath Ents Rws Env
theorem smul_one (n : Nat) (h2 : n ≤ 128) (w : World) : Calls Tryz.prog 152 #[.int .u64 1, .int .u64 (n : Int)] w fun r w' => r = .returned (.tuple #[.int .u64 0, .int .u64 (n : Int)]) ∧ w = w' :=
  (Tryz.bits_Mul 1 n (by decide) (by omega) w).mono fun r w' h => by
    obtain ⟨rfl, rfl⟩ := h
    refine ⟨?_, rfl⟩
    rw [Nat.one_mul, Nat.div_eq_of_lt (by omega), Nat.mod_eq_of_lt (by omega)]
    rfl
abbrev strRow (L : List ByteArray) : Obj := .cells (SR.all L).toArray 9
theorem str_info1 : (Tryz.prog.info? 9).map (·.size) = some 1 := by kernel_rfl
theorem strs_all_len (L : List ByteArray) : (SR.all L).length = L.length := (all_length srOk L).trans (Nat.mul_one _)
theorem strs_all_flat (L : List ByteArray) : ∀ u ∈ SR.all L, u.oneCell' = true := all_flat srOk L
theorem strs_all_take (L : List ByteArray) (k : Nat) : (SR.all L).take k = SR.all (L.take k) := by
  have := all_take srOk L k
  rw [this, show k * SR.sz = k from Nat.mul_one k]
theorem strs_all_drop (L : List ByteArray) (k : Nat) : (SR.all L).drop k = SR.all (L.drop k) := by
  have := all_drop srOk L k
  rw [this, show k * SR.sz = k from Nat.mul_one k]
theorem szero_row (n : Nat) : (Obj.cells (madeCells #[.string ⟨#[]⟩] n) 9) = strRow (List.replicate n ⟨#[]⟩) := by
  unfold strRow
  congr 1
  exact Array.ext' (made_all (R := SR) rfl ⟨#[]⟩ rfl n).1
/-- k strings that have been laid, and the zeros behind them -/
def repS (n k : Nat) (v : ByteArray) : List ByteArray := List.replicate k v ++ List.replicate (n - k) ⟨#[]⟩
theorem reps_len {n k : Nat} {v : ByteArray} (h : k ≤ n) : (repS n k v).length = n := by unfold repS; simp; omega
theorem reps_none (n : Nat) (v : ByteArray) : repS n 0 v = List.replicate n ⟨#[]⟩ := by simp [repS]
theorem reps_all (n : Nat) (v : ByteArray) : repS n n v = List.replicate n v := by simp [repS]
theorem reps_next (n k m : Nat) (v : ByteArray) : (SR.all (repS n k v)).toArray.toList.take k ++ (SR.all (List.replicate m v) ++ (SR.all (repS n k v)).toArray.toList.drop (k + (SR.all (List.replicate m v)).length)) = SR.all (repS n (k + m) v) := by
  show (SR.all (repS n k v)).take k ++ (SR.all (List.replicate m v) ++ (SR.all (repS n k v)).drop _) = _
  rw [strs_all_take, strs_all_drop, strs_all_len, List.length_replicate, ← all_append, ← all_append]
  congr 1
  unfold repS
  rw [List.take_append_of_le_length (by simp), List.take_of_length_le (by simp), List.drop_append, List.drop_of_length_le (by simp), List.nil_append, List.drop_replicate, ← List.append_assoc, List.replicate_append_replicate]
  congr 2
  simp
  omega
theorem reps_cell {w : World} {g n k m : Nat} {v : ByteArray} (h : w.heap[g]? = some (strRow (repS n k v))) (hm : m ≤ k) : ∀ j u, (SR.all (List.replicate m v))[j]? = some u → w.cell? ((⟨g, 0, none⟩ : Addr).add j) = some u := by
  intro j u hu
  have e : SR.all (List.replicate m v) = (SR.all (repS n k v)).take m := by
    rw [strs_all_take]
    congr 1
    unfold repS
    rw [List.take_append_of_le_length (by simp; omega), List.take_replicate]
    congr 1
    omega
  rw [e, List.getElem?_take] at hu
  split at hu
  · rw [Addr.add_lit, Nat.zero_add, cell_of_row w g j _ _ _ h, List.getElem?_toArray]
    exact hu
  · cases hu
theorem run_copy_reps (w : World) (ty : TypeId) (x : Addr) (g n k m sLen sCap dLen dCap : Nat) (v : ByteArray) (hm : m = Nat.min sLen dLen) (hg : w.heap[g]? = some (strRow (repS n k v))) (hkm : k + m ≤ n)
    (hsrc : ∀ j u, (SR.all (List.replicate m v))[j]? = some u → w.cell? (x.add j) = some u) :
    (Builtin.copy_ #[22, 22] ty #[.slice (some ⟨g, k, none⟩) dLen dCap, .slice (some x) sLen sCap]).run Tryz.prog w = .ok (goInt m) (w.setRow g (SR.all (repS n (k + m) v)).toArray) := by
  have hl : (SR.all (List.replicate m v)).length = m := by rw [strs_all_len]; simp
  have h := run_copy_row (P := Tryz.prog) w 22 22 ty 9 g k dLen dCap x sLen sCap (SR.all (repS n k v)).toArray 9 (SR.all (List.replicate m v)) Tryz.underlying22 str_info1 hg (by rw [hl]; exact hm) hsrc (by rw [hl, List.size_toArray, strs_all_len, reps_len (by omega)]; exact hkm) (strs_all_flat _)
  rw [List.append_assoc, reps_next, hl] at h
  exact h
theorem copy_reps {w : World} {ops : Array Oper} {rest : List Oper} {a : Act} {Q : Exit → Act → World → Prop} (dst : Option Tmp) (d s : Operand) {t' : TypeId} {pos : String} {after : Array Edge}
    (x : Addr) (g n k m sLen sCap dLen dCap : Nat) (v : ByteArray) (hd : a.eval d = .slice (some ⟨g, k, none⟩) dLen dCap) (hs : a.eval s = .slice (some x) sLen sCap) (hm : m = Nat.min sLen dLen) (hg : w.heap[g]? = some (strRow (repS n k v))) (hkm : k + m ≤ n)
    (hsrc : ∀ j u, (SR.all (List.replicate m v))[j]? = some u → w.cell? (x.add j) = some u)
    (h : wpList Tryz.prog ops Q rest (a.put dst (goInt m)) (w.setRow g (SR.all (repS n (k + m) v)).toArray)) :
    wpList Tryz.prog ops Q (⟨dst, .call { callee := .builtin .copy, args := #[d, s], argTypes := #[22, 22] }, t', pos, after, none⟩ :: rest) a w := by
  refine wpList_plain rfl fun K hK => ?_
  have hrun := run_copy_reps w t' x g n k m sLen sCap dLen dCap v hm hg hkm hsrc
  unfold Oper.wp
  simp [execOp, resolve, invoke, builtin, hd, hs, hrun, Result.andThen]
  exact hK _ _ h
theorem wp_copy_reps {w : World} {o : Oper} {a : Act} {K : Act → World → Prop} {Q : Exit → Act → World → Prop} (d s : Operand)
    (ho : o.op = .call { callee := .builtin .copy, args := #[d, s], argTypes := #[22, 22] })
    (x : Addr) (g n k m sLen sCap dLen dCap : Nat) (v : ByteArray) (hd : a.eval d = .slice (some ⟨g, k, none⟩) dLen dCap) (hs : a.eval s = .slice (some x) sLen sCap) (hm : m = Nat.min sLen dLen) (hg : w.heap[g]? = some (strRow (repS n k v))) (hkm : k + m ≤ n)
    (hsrc : ∀ j u, (SR.all (List.replicate m v))[j]? = some u → w.cell? (x.add j) = some u)
    (h : K (a.put o.dst (goInt m)) (w.setRow g (SR.all (repS n (k + m) v)).toArray)) : o.wp Tryz.prog a w K Q := by
  have hrun := run_copy_reps w o.type x g n k m sLen sCap dLen dCap v hm hg hkm hsrc
  unfold Oper.wp
  simp [execOp, ho, resolve, invoke, builtin, hd, hs, hrun, Result.andThen]
  exact h
set_option maxHeartbeats 4000000 in
set_option maxRecDepth 20000 in
theorem srepeat_any (v : ByteArray) (x n : Nat) (w : World) (fr : Nat × Nat) (hx : w.heap[x]? = some (.cells #[.string v] 9 fr)) (h1 : 1 ≤ n) (h2 : n ≤ 128) :
    Calls Tryz.prog 132 #[.slice (some ⟨x, 0, none⟩) 1 1, .int .i64 (n : Int)] w fun r w' => ∃ g, r = .returned (.slice (some ⟨g, 0, none⟩) n n) ∧ w.heap.size ≤ g ∧ w'.heap[g]? = some (strRow (List.replicate n v)) ∧ Below w.heap.size w w' := by
  have HM := Lib.hid (fun w => smul_one n h2 w)
  have hmk := fun w => run_make_row' (P := Tryz.prog) 22 9 (.string ⟨#[]⟩) 16 Tryz.underlying22 (show (Tryz.prog.info? 9).map (fun i => (i.zero, i.size, i.bytes)) = some (some (.string ⟨#[]⟩), 1, 16) by kernel_rfl) rfl .i64 .i64 n (by omega) (by omega) w
  have hxl := e_lt hx
  have hg0 : decide ((n : Int) < 0) = false := by simp
  have hg1 : ¬ (n : Int) < 0 := by omega
  have hg2 : decide (9223372036854775807 < (n : Int)) = false := by simp; omega
  have hg3 : decide (9223372036854775807 < n) = false := by simp; omega
  have hwn : wrap64 (n : Int) = n := by unfold wrap64; omega
  have hun : IntKind.u64.wrap (n : Int) = n := by have e : IntKind.u64.wrap (n : Int) = (n : Int) % 18446744073709551616 := rfl; omega
  go_enter Tryz.func132, Tryz.ntmps132
  have HN := Lib.hid (⟨h1, h2⟩ : 1 ≤ n ∧ n ≤ 128)
  have HG := Lib.hid ((heap_alloc_new w (.cells (madeCells #[.string ⟨#[]⟩] n) 9)).trans (congrArg some ((szero_row n).trans (by rw [← reps_none n v]))))
  have HX := Lib.hid (fun (j : Nat) u (hu : (SR.all (List.replicate 1 v))[j]? = some u) => (show (w.alloc (.cells (madeCells #[.string ⟨#[]⟩] n) 9)).cell? ((⟨x, 0, none⟩ : Addr).add j) = some u from by
    have hj : j = 0 := by have := (List.getElem?_eq_some_iff.1 hu).1; rw [strs_all_len] at this; simpa using this
    subst hj
    cases hu
    exact cell_of_row _ _ 0 _ _ _ (e_al hx _)))
  have HB := Lib.hid ((Below.refl w.heap.size w).alloc (Nat.le_refl _) (.cells (madeCells #[.string ⟨#[]⟩] n) 9))
  clear hx
  go_wp2_with (first
    | (go_at_call 152; ((with_reducible refine (HM.out _).mono ?_); rintro r9 w9 ⟨rfl, rfl⟩))
    | ((with_reducible refine copy_reps (some 33) (.tmp 31) (.tmp 32) ⟨x, 0, none⟩ w.heap.size n 0 1 1 1 n n v ?_ ?_ ?_ HG.out ?_ HX.out ?_); (· rfl); (· rfl); (· have := HN.out; exact (Nat.min_eq_left this.1).symm); (· have := HN.out; omega); simp only [Act.put]; have G2 := setRow_heap _ w.heap.size _ (SR.all (repS n (0 + 1) v)).toArray _ _ HG.out; have B2 := below_setRow HB.out (Nat.le_refl _) (SR.all (repS n (0 + 1) v)).toArray; rw [Nat.zero_add] at G2 B2 ⊢; generalize (w.alloc (.cells (madeCells #[.string ⟨#[]⟩] n) 9)).setRow w.heap.size (SR.all (repS n 1 v)).toArray = w2 at *))
  clear hmk HM HG HB HX
  go_loopw [8] (fun y wr => ∃ k : Nat, y = .int .i64 (k : Int) ∧ 1 ≤ k ∧ k ≤ n ∧ wr.heap[w.heap.size]? = some (strRow (repS n k v)) ∧ Below w.heap.size w wr) (fun y _ => n - (intOf y).toNat)
  case atStart => exact ⟨1, rfl, Nat.le_refl _, h1, G2, B2⟩
  case round =>
    clear G2 B2
    obtain ⟨k, rfl, hk1, hk, hg, hb⟩ := hrel
    by_cases hlt : k < n
    · have hkI : (k : Int) < (n : Int) := by omega
      have hgd := (show wr.drew.heap[w.heap.size]? = _ from hg)
      have hbd := hb.drew
      have hmn : Nat.min k (n - k) ≤ n - k := Nat.min_le_right _ _
      have hmk : Nat.min k (n - k) ≤ k := Nat.min_le_left _ _
      have hm0 : 1 ≤ Nat.min k (n - k) := Nat.le_min.2 ⟨hk1, by omega⟩
      obtain ⟨m, hm⟩ : ∃ m, m = Nat.min k (n - k) := ⟨_, rfl⟩
      rw [← hm] at hmn hmk hm0
      have hwm : IntKind.i64.wrap ((k : Int) + (m : Int)) = (k : Int) + (m : Int) := IntWalk.i64_in _ (by omega)
      replace hm := Lib.hid hm
      go_wp2_with fail
      refine Plan.start (fun _ => True) [(0, true), (1, true), (2, true), (3, true), (4, true), (5, true), (6, true), (7, false), (8, true), (9, true)] (by kernel_rfl) (by kernel_rfl) (by kernel_rfl) (by kernel_rfl) trivial ?_
      simp only [List.map_cons, List.map_nil, List.getElem?_toArray, List.getElem?_cons_zero, List.getElem?_cons_succ]
      repeat (first | (refine Plan.take ?_ (by rfl) ?_ ?_; rotate_left; (· rintro w9 -; go_simp; (try rw [if_neg (by omega)]); all_goals (with_reducible rfl)); simp only [Act.put, List.setIfInBounds_toArray, List.set_cons_zero, List.set_cons_succ]))
      refine Plan.carry (by rfl) (wp_copy_reps (.tmp 41) (.tmp 44) rfl ⟨w.heap.size, 0, none⟩ w.heap.size n k m _ _ _ _ v (by rfl) (by rfl) hm.out hgd (by omega) (reps_cell hgd hmk) ?_)
      have G3 := setRow_heap _ w.heap.size _ (SR.all (repS n (k + m) v)).toArray _ _ hgd
      have B3 := below_setRow hbd (Nat.le_refl _) (SR.all (repS n (k + m) v)).toArray
      generalize wr.drew.setRow w.heap.size (SR.all (repS n (k + m) v)).toArray = w3 at *
      refine ⟨trivial, ?_⟩
      simp only [Act.put, List.setIfInBounds_toArray, List.set_cons_zero, List.set_cons_succ]
      repeat (first | (refine Plan.take ?_ (by rfl) ?_ ?_; rotate_left; (· rintro w9 -; go_simp; (try rw [if_neg (by omega)]); all_goals (with_reducible rfl)); simp only [Act.put, List.setIfInBounds_toArray, List.set_cons_zero, List.set_cons_succ]))
      refine Plan.ends ?_
      go_wp2_with fail
      go_roundw
      case rel => exact ⟨k + m, by go_num, by omega, by omega, G3, B3⟩
      case measure => simp [intOf]; omega
    · obtain rfl : k = n := by omega
      have hrI : ¬ (k : Int) < (k : Int) := by omega
      go_wp2_with fail
      go_ret
      exact ⟨w.heap.size, rfl, Nat.le_refl _, by rw [← reps_all]; exact hg, hb⟩

/-- what Clone gives: a list of the call's own -/
def CPost (w : World) (B : List ByteArray) (n : Nat) (r : Ending) (w' : World) : Prop := ∃ v, r = .returned v ∧ w'.ownsRow w.heap.size 9 1 v n (SR.all B) ∧ Below w.heap.size w w'
set_option maxHeartbeats 4000000 in
set_option maxRecDepth 20000 in
theorem sclone_any (F : Nat → Prop) (B : List ByteArray) (a : Option Addr) (n c : Nat) (w : World) (hl : SList w F a n c B) (hn : n ≤ 8796093022208) : Calls Tryz.prog 128 #[.slice a n c] w (CPost w B n) := by
  unfold CPost
  cases a with
  | none =>
    obtain ⟨rfl, rfl, rfl⟩ := hl.none
    have q22 : ∀ (w : World) (a : Option Addr) (n c n' c' : Nat), (binOp .eql 22 (.slice a n c) (.slice none n' c')).run Tryz.prog w = .ok (.bool a.isNone) w := fun w a n c n' c' => Lib.run_eql_slice_nil w _ _ a n c n' c' Tryz.underlying22
    go_enter Tryz.func128, Tryz.ntmps128
    go_wp2_with fail
    go_ret
    exact ⟨_, rfl, own_none SR w _, Below.refl _ _⟩
  | some x =>
    have l0 := hl.rest0
    have K := Env.start w
    have KA : Env w (w.alloc (.cells #[] 9)) (Env.lst SR (Env.slv w.heap.size 0 0) 0 [] :: _) := K.empty SR
    have l1 := l0.keep (K.keep_empty SR)
    have q22 : ∀ (w : World) (a : Option Addr) (n c n' c' : Nat), (binOp .eql 22 (.slice a n c) (.slice none n' c')).run Tryz.prog w = .ok (.bool a.isNone) w := fun w a n c n' c' => Lib.run_eql_slice_nil w _ _ a n c n' c' Tryz.underlying22
    clear hl l0 K
    go_enter Tryz.func128, Tryz.ntmps128
    go_wp2_with (first
      | (refine KA.apps_listW srOk rfl (.tmp 5) (.tmp 6) rfl 0 rfl rfl rfl l1 (by omega) (by show (0 + n) * 16 ≤ _; omega) ?_; intro gA cA w1 K9 _; simp only [List.set, Nat.zero_add, List.nil_append] at K9; simp only [Nat.zero_add, Act.put, List.setIfInBounds_toArray, List.set_cons_zero, List.set_cons_succ]; clear KA))
    go_ret
    exact ⟨_, rfl, K9.own 0 rfl, K9.hb⟩
end Go.Proofs.YtnmhnjjehglcfaaGreat.Reps

/- The walks of the program's apply, Apply, Run and New of blocks. -/
namespace Go.Proofs.YtnmhnjjehglcfaaGreat.Ents
open Go.RowKit Plan ModMath CmdMath Rws Env LayMath Reps
set_option maxHeartbeats 8000000 in
set_option maxRecDepth 20000 in
/-- a command on a list of blocks of the caller's own -/
theorem papply_any (w0 w : World) (T : List Thing) (B : List ByteArray) (a : Option Addr) (n c : Nat) (k b : Int) (s : ByteArray) (K0 : Env w0 w (.own 9 1 (.slice a n c) n (SR.all B) :: T)) :
    Calls Tryz.prog 129 #[.slice a n c, cmdV k b s] w fun r w' => r = .returned (resV (applyR B ⟨k, b, s⟩)) ∧ Env w0 w' (.own 9 1 (.slice a n c) n (SR.all (applyB B ⟨k, b, s⟩)) :: T) := by
  have hlen : B.length = n := owns_len srOk (K0.own 0 rfl)
  have HC := Lib.hid (fun W => check_any 0 0 n 0 0 0 k b s W)
  unfold confV at HC
  have hE : errM B ⟨k, b, s⟩ = checkC n k b s.size := by unfold errM; rw [hlen]
  rw [← hE] at HC
  clear hE
  have K := (K0.al (.cells #[.int .i64 k, .int .i64 b, .string s] 51)).al (.cells #[.int .i64 0, .string ⟨#[]⟩] 53)
  simp only [World.size_alloc] at K
  clear K0
  by_cases hE : errM B ⟨k, b, s⟩ = 0
  · have hz := check_zero (show checkC B.length k b s.size = 0 from hE)
    rw [hlen] at hz
    rw [hE] at HC
    obtain hk | hk | hk | hk : k = 1 ∨ k = 2 ∨ k = 3 ∨ k = 4 := by omega
    · subst hk
      obtain ⟨i, rfl⟩ : ∃ i : Nat, b = (i : Int) := ⟨b.toNat, by omega⟩
      have hi : i < n := by omega
      have hiI : (i : Int) < (n : Int) := by omega
      obtain ⟨s2, hs2⟩ : ∃ s2, B[i]? = some s2 := ⟨_, List.getElem?_eq_getElem (by omega)⟩
      obtain ⟨g, c, e9, _, _⟩ := owns_some (R := SR) (K.own 2 rfl) (show 0 < n by omega)
      obtain ⟨rfl, -, rfl⟩ := Value.slice.inj e9
      clear e9
      have e9 := apply_read (x := ⟨1, i, s⟩) hE rfl hs2
      rw [e9.1, e9.2]
      clear e9 hE hz
      go_enter Tryz.func129, Tryz.ntmps129
      generalize hw0 : (w.alloc (.cells #[.int .i64 _, .int .i64 _, .string s] 51)).alloc (.cells #[.int .i64 0, .string ⟨#[]⟩] 53) = w9 at *
      go_wp2_with (first
        | ((with_reducible refine Plan.load_lit 51 (.tmp 3) (w.heap.size) ?_ (K.get 1 rfl) Tryz.underlying51 ?_ ?_ ?_); (· rfl); (· rfl); (· exact cmd_info); simp only [Act.put, List.setIfInBounds_toArray, List.set_cons_zero, List.set_cons_succ])
        | (go_at_call 131; ((with_reducible refine (HC.out _).mono ?_); rintro r9 w1 ⟨rfl, hb⟩; replace K := K.on hb; clear hb hw0; obtain ⟨c0, c1, c2⟩ := cmd_cells (K.get 1 rfl); obtain ⟨hc1, hf1⟩ := K.own1 srOk rfl 2 rfl hs2 (u := .string s2) rfl))
        | ((with_reducible refine Plan.store_lit 53 (.tmp 4) _ (w.heap.size + 1) #[.int .i64 0, .string s2] (K.get 0 rfl) ?_ ?_ ?_ ?_ ?_ ?_); rotate_left; (· rfl); (· exact res_info); (· rfl); (· simp [Value.oneCell']); rotate_left; (· rfl); simp only [Act.put]))
      have K9 := K.put 0 rfl (cs' := #[.int .i64 0, .string s2]) rfl
      simp only [List.set] at K9
      exact bodyPost_ret (results_cell_row rfl _ _ _ _ _ _ _ rfl (K9.get 0 rfl) Tryz.underlying53 rfl res_info) rfl ⟨rfl, K9.tail.tail⟩
    · subst hk
      obtain ⟨i, rfl⟩ : ∃ i : Nat, b = (i : Int) := ⟨b.toNat, by omega⟩
      have hi : i < n := by omega
      have hiI : (i : Int) < (n : Int) := by omega
      obtain ⟨s2, hs2⟩ : ∃ s2, B[i]? = some s2 := ⟨_, List.getElem?_eq_getElem (by omega)⟩
      obtain ⟨g, c, e9, _, _⟩ := owns_some (R := SR) (K.own 2 rfl) (show 0 < n by omega)
      obtain ⟨rfl, -, rfl⟩ := Value.slice.inj e9
      clear e9
      have e9 := apply_write (x := ⟨2, i, s⟩) hE rfl
      rw [e9.1, e9.2]
      simp only [Int.toNat_natCast]
      clear e9 hE hz
      go_enter Tryz.func129, Tryz.ntmps129
      generalize hw0 : (w.alloc (.cells #[.int .i64 _, .int .i64 _, .string s] 51)).alloc (.cells #[.int .i64 0, .string ⟨#[]⟩] 53) = w9 at *
      go_wp2_with (first
        | ((with_reducible refine Plan.load_lit 51 (.tmp 3) (w.heap.size) ?_ (K.get 1 rfl) Tryz.underlying51 ?_ ?_ ?_); (· rfl); (· rfl); (· exact cmd_info); simp only [Act.put, List.setIfInBounds_toArray, List.set_cons_zero, List.set_cons_succ])
        | (go_at_call 131; ((with_reducible refine (HC.out _).mono ?_); rintro r9 w1 ⟨rfl, hb⟩; replace K := K.on hb; clear hb hw0; obtain ⟨c0, c1, c2⟩ := cmd_cells (K.get 1 rfl); obtain ⟨hc1, hf1⟩ := K.own1 srOk rfl 2 rfl hs2 (u := .string s2) rfl; have K8 := (K.set1 srOk rfl 2 rfl hi s (u := .string s) rfl).1; simp only [List.set] at K8))
        | ((with_reducible refine Plan.store_lit 53 (.tmp 4) _ (w.heap.size + 1) #[.int .i64 0, .string ⟨#[]⟩] (K8.get 0 rfl) ?_ ?_ ?_ ?_ ?_ ?_); rotate_left; (· rfl); (· exact res_info); (· rfl); (· simp [Value.oneCell']); rotate_left; (· rfl); simp only [Act.put]))
      have K9 := K8.put 0 rfl (cs' := #[.int .i64 0, .string ⟨#[]⟩]) rfl
      simp only [List.set] at K9
      exact bodyPost_ret (results_cell_row rfl _ _ _ _ _ _ _ rfl (K9.get 0 rfl) Tryz.underlying53 rfl res_info) rfl ⟨rfl, K9.tail.tail⟩
    · subst hk
      obtain ⟨i, rfl⟩ : ∃ i : Nat, b = (i : Int) := ⟨b.toNat, by omega⟩
      have hi : i < n := by omega
      have hiI : (i : Int) < (n : Int) := by omega
      obtain ⟨s2, hs2⟩ : ∃ s2, B[i]? = some s2 := ⟨_, List.getElem?_eq_getElem (by omega)⟩
      obtain ⟨g, c, e9, _, _⟩ := owns_some (R := SR) (K.own 2 rfl) (show 0 < n by omega)
      obtain ⟨rfl, -, rfl⟩ := Value.slice.inj e9
      clear e9
      have e9 := apply_trim (x := ⟨3, i, s⟩) hE rfl
      rw [e9.1, e9.2]
      simp only [Int.toNat_natCast]
      have HZ := Lib.hid (fun W => zero_any W)
      generalize zeroC = Z0 at *
      clear e9 hE hz
      go_enter Tryz.func129, Tryz.ntmps129
      generalize hw0 : (w.alloc (.cells #[.int .i64 _, .int .i64 _, .string s] 51)).alloc (.cells #[.int .i64 0, .string ⟨#[]⟩] 53) = w9 at *
      go_upto_region 10 with (first
        | ((with_reducible refine Plan.load_lit 51 (.tmp 3) (w.heap.size) ?_ (K.get 1 rfl) Tryz.underlying51 ?_ ?_ ?_); (· rfl); (· rfl); (· exact cmd_info); simp only [Act.put, List.setIfInBounds_toArray, List.set_cons_zero, List.set_cons_succ])
        | (go_at_call 131; ((with_reducible refine (HC.out _).mono ?_); rintro r9 w1 ⟨rfl, hb⟩; replace K := K.on hb; clear hb hw0; obtain ⟨c0, c1, c2⟩ := cmd_cells (K.get 1 rfl))))
      refine Plan.start (fun W => (W.cell? ⟨w.heap.size, 0, none⟩ = some (.int .i64 3) ∧ W.cell? ⟨w.heap.size, 1, none⟩ = some (.int .i64 (i : Int)) ∧ W.cell? ⟨w.heap.size, 2, none⟩ = some (.string s))) [(0, true), (1, true), (2, true), (3, false), (4, true), (5, false)] (by kernel_rfl) (by kernel_rfl) (by kernel_rfl) (by kernel_rfl) (cmd_cells (K.drew.get 1 rfl)) ?_
      simp only [List.map_cons, List.map_nil, List.getElem?_toArray, List.getElem?_cons_zero, List.getElem?_cons_succ]
      replace K := K.drew
      repeat (first | (refine Plan.take ?_ (by rfl) ?_ ?_; rotate_left; (· rintro w9 ⟨u0, u1, u2⟩; go_simp; (try rw [if_neg (by omega)]); all_goals (with_reducible rfl)); simp only [Act.put, List.setIfInBounds_toArray, List.set_cons_zero, List.set_cons_succ]) | (refine Plan.pass (by rfl) ?_; simp only [Act.put, List.setIfInBounds_toArray, List.set_cons_zero, List.set_cons_succ]))
      refine Plan.call (by rfl) 133 _ ?_ (HZ.out _) ?_
      · go_simp
      rintro r9 w2 ⟨rfl, hb⟩
      replace K := K.on hb
      clear hb
      refine ⟨_, rfl, cmd_cells (K.get 1 rfl), ?_⟩
      simp only [Act.put, List.setIfInBounds_toArray, List.set_cons_zero, List.set_cons_succ]
      repeat (first | (refine Plan.take ?_ (by rfl) ?_ ?_; rotate_left; (· rintro w9 ⟨u0, u1, u2⟩; go_simp; (try rw [if_neg (by omega)]); all_goals (with_reducible rfl)); simp only [Act.put, List.setIfInBounds_toArray, List.set_cons_zero, List.set_cons_succ]) | (refine Plan.pass (by rfl) ?_; simp only [Act.put, List.setIfInBounds_toArray, List.set_cons_zero, List.set_cons_succ]))
      refine Plan.carry (by rfl) (K.store_own srOk rfl 2 rfl 9 (.tmp 39) (.tmp 38) rfl hi Z0 (u := .string Z0) rfl rfl rfl str_info1 rfl ?_)
      intro w3 K8 _
      simp only [List.set] at K8
      refine ⟨cmd_cells (K8.get 1 rfl), ?_⟩
      simp only [Act.put]
      refine Plan.ends ?_
      go_wp2_with (first
        | ((with_reducible refine Plan.store_lit 53 (.tmp 4) _ (w.heap.size + 1) #[.int .i64 0, .string ⟨#[]⟩] (K8.get 0 rfl) ?_ ?_ ?_ ?_ ?_ ?_); rotate_left; (· rfl); (· exact res_info); (· rfl); (· simp [Value.oneCell']); rotate_left; (· rfl); simp only [Act.put]))
      have K9 := K8.put 0 rfl (cs' := #[.int .i64 0, .string ⟨#[]⟩]) rfl
      simp only [List.set] at K9
      exact bodyPost_ret (results_cell_row rfl _ _ _ _ _ _ _ rfl (K9.get 0 rfl) Tryz.underlying53 rfl res_info) rfl ⟨rfl, K9.tail.tail⟩
    · subst hk
      have e9 := apply_flush (x := ⟨4, b, s⟩) hE rfl
      rw [e9.1, e9.2]
      clear e9 hE hz
      go_enter Tryz.func129, Tryz.ntmps129
      generalize hw0 : (w.alloc (.cells #[.int .i64 _, .int .i64 _, .string s] 51)).alloc (.cells #[.int .i64 0, .string ⟨#[]⟩] 53) = w9 at *
      go_wp2_with (first
        | ((with_reducible refine Plan.load_lit 51 (.tmp 3) (w.heap.size) ?_ (K.get 1 rfl) Tryz.underlying51 ?_ ?_ ?_); (· rfl); (· rfl); (· exact cmd_info); simp only [Act.put, List.setIfInBounds_toArray, List.set_cons_zero, List.set_cons_succ])
        | (go_at_call 131; ((with_reducible refine (HC.out _).mono ?_); rintro r9 w1 ⟨rfl, hb⟩; replace K := K.on hb; clear hb hw0; obtain ⟨c0, c1, c2⟩ := cmd_cells (K.get 1 rfl)))
        | ((with_reducible refine Plan.store_lit 53 (.tmp 4) _ (w.heap.size + 1) #[.int .i64 0, .string ⟨#[]⟩] (K.get 0 rfl) ?_ ?_ ?_ ?_ ?_ ?_); rotate_left; (· rfl); (· exact res_info); (· rfl); (· simp [Value.oneCell']); rotate_left; (· rfl); simp only [Act.put]))
      have K9 := K.put 0 rfl (cs' := #[.int .i64 0, .string ⟨#[]⟩]) rfl
      simp only [List.set] at K9
      exact bodyPost_ret (results_cell_row rfl _ _ _ _ _ _ _ rfl (K9.get 0 rfl) Tryz.underlying53 rfl res_info) rfl ⟨rfl, K9.tail.tail⟩
  · have e9 := apply_bad hE
    rw [e9.1, e9.2]
    generalize errM B ⟨k, b, s⟩ = E at *
    have hE2 : (E != 0) = true := by simpa using hE
    clear e9 hE
    go_enter Tryz.func129, Tryz.ntmps129
    generalize hw0 : (w.alloc (.cells #[.int .i64 _, .int .i64 _, .string s] 51)).alloc (.cells #[.int .i64 0, .string ⟨#[]⟩] 53) = w9 at *
    go_wp2_with (first
      | ((with_reducible refine Plan.load_lit 51 (.tmp 3) (w.heap.size) ?_ (K.get 1 rfl) Tryz.underlying51 ?_ ?_ ?_); (· rfl); (· rfl); (· exact cmd_info); simp only [Act.put, List.setIfInBounds_toArray, List.set_cons_zero, List.set_cons_succ])
      | (go_at_call 131; ((with_reducible refine (HC.out _).mono ?_); rintro r9 w1 ⟨rfl, hb⟩; replace K := K.on hb; clear hb hw0; obtain ⟨c0, c1, c2⟩ := cmd_cells (K.get 1 rfl)))
      | ((with_reducible refine Plan.store_lit 53 (.tmp 4) _ (w.heap.size + 1) #[.int .i64 E, .string ⟨#[]⟩] (K.get 0 rfl) ?_ ?_ ?_ ?_ ?_ ?_); rotate_left; (· rfl); (· exact res_info); (· rfl); (· simp [Value.oneCell']); rotate_left; (· rfl); simp only [Act.put]))
    have K9 := K.put 0 rfl (cs' := #[.int .i64 E, .string ⟨#[]⟩]) rfl
    simp only [List.set] at K9
    exact bodyPost_ret (results_cell_row rfl _ _ _ _ _ _ _ rfl (K9.get 0 rfl) Tryz.underlying53 rfl res_info) rfl ⟨rfl, K9.tail.tail⟩
end Go.Proofs.YtnmhnjjehglcfaaGreat.Ents

/- The walks of the program's Apply, Run and New of blocks: modelOk. -/
namespace Go.Proofs.YtnmhnjjehglcfaaGreat.Ents
open Go.RowKit Plan ModMath CmdMath Rws Env LayMath Reps
set_option maxHeartbeats 8000000 in
set_option maxRecDepth 20000 in
theorem pApply_any (F : Nat → Prop) (B : List ByteArray) (a : Option Addr) (n c : Nat) (k b : Int) (s : ByteArray) (w : World) (hl : SList w F a n c B) (hn : n ≤ 8796093022208) :
    Calls Tryz.prog 106 #[.slice a n c, cmdV k b s] w (APost w F (applyB B ⟨k, b, s⟩) (applyR B ⟨k, b, s⟩)) := by
  have HC := Lib.hid (fun W G (h : SList W G a n c B) => sclone_any G B a n c W h hn)
  have HA := Lib.hid (fun W T a c (K : Env w W (.own 9 1 (.slice a n c) n (SR.all B) :: T)) => papply_any w W T B a n c k b s K)
  have l0 := ((hl.rest0).keep ((Env.start w).keep_al (.cells #[.int .i64 k, .int .i64 b, .string s] 51))).keep (((Env.start w).al (.cells #[.int .i64 k, .int .i64 b, .string s] 51)).keep_al (.cells #[.int .i64 0, .string ⟨#[]⟩] 53))
  have K := ((Env.start w).al (.cells #[.int .i64 k, .int .i64 b, .string s] 51)).al (.cells #[.int .i64 0, .string ⟨#[]⟩] 53)
  simp only [World.size_alloc] at K l0
  clear hl
  unfold APost
  unfold CPost at HC
  generalize applyB B ⟨k, b, s⟩ = BA at *
  generalize applyR B ⟨k, b, s⟩ = Z at *
  obtain ⟨ze, zd⟩ := Z
  simp only [resV] at HA
  go_enter Tryz.func106, Tryz.ntmps106
  generalize hw0 : (w.alloc (.cells #[.int .i64 _, .int .i64 _, .string s] 51)).alloc (.cells #[.int .i64 0, .string ⟨#[]⟩] 53) = w9 at *
  go_wp2_with (first
    | ((with_reducible refine Plan.load_lit 51 (.tmp 3) (w.heap.size) ?_ (K.get 2 rfl) Tryz.underlying51 ?_ ?_ ?_); (· rfl); (· rfl); (· exact cmd_info); simp only [Act.put, List.setIfInBounds_toArray, List.set_cons_zero, List.set_cons_succ])
    | (go_at_call 128; ((with_reducible refine (HC.out _ _ l0).mono ?_); rintro r9 w1 ⟨v9, rfl, hown, hb⟩; obtain ⟨a2, c2, rfl, _⟩ := owns_list (F := fun _ => True) srOk hown (fun _ _ => trivial); replace K := (K.got hb hown).1; clear hb hw0 hown l0))
    | (go_at_call 129; ((with_reducible refine (HA.out _ _ _ _ K).mono ?_); rintro r9 w2 ⟨rfl, K2⟩; clear K; have K := K2; clear K2))
    | ((with_reducible refine Plan.store_lit 53 (.tmp 5) _ (w.heap.size + 1) #[.int .i64 ze, .string zd] (K.get 1 rfl) ?_ ?_ ?_ ?_ ?_ ?_); rotate_left; (· rfl); (· exact res_info); (· rfl); (· simp [Value.oneCell']); rotate_left; (· rfl); simp only [Act.put]))
  have K9 := K.put 1 rfl (cs' := #[.int .i64 ze, .string zd]) rfl
  simp only [List.set] at K9
  obtain ⟨a9, c9, e9, l9⟩ := owns_list (F := fun b => w.heap.size ≤ b) srOk (K9.own 0 rfl) (fun b h9 => ((K9.own 0 rfl).lt b h9).1)
  cases e9
  exact bodyPost_ret (Plan.results_tmp_cell (p := 5) (q := 4) rfl _ _ _ _ _ _ _ rfl (K9.get 1 rfl) Tryz.underlying53 rfl res_info) rfl ⟨_, _, _, rfl, l9.mono (fun b _ h => .inr h), K9.hb⟩
set_option maxHeartbeats 8000000 in
set_option maxRecDepth 20000 in
theorem pRun_any (F F2 : Nat → Prop) (B : List ByteArray) (l : List Cmd) (a b : Option Addr) (n c m d : Nat) (w : World) (hl : SList w F a n c B) (hk : CList' w F2 b m d l) (hn : n ≤ 8796093022208) (hm : m ≤ 100000) :
    Calls Tryz.prog 98 #[.slice a n c, .slice b m d] w (RPost w F (runB B l) (runR B l)) := by
  have HCl := Lib.hid (fun W G (h : SList W G a n c B) => sclone_any G B a n c W h hn)
  unfold CPost at HCl
  have hlen := hl.length
  have hlm := hk.length
  have HC := Lib.hid (fun W (h : Below w.heap.size w W) i (hi : i < m) => cmd_at (hk.same h) i hi)
  have K := Env.start w
  have hmk := fun W => run_make_rows orOk ⟨0, ⟨#[]⟩⟩ rfl 144 rfl .i64 .i64 m (by show 24 * m ≤ _; omega) (by omega) W
  have hml : m ≤ maxLen := by unfold maxLen; omega
  have l0 := hl.rest0
  clear hl hk
  unfold RPost
  go_enter Tryz.func98, Tryz.ntmps98
  go_wp2_with (first
    | (go_at_call 128; ((with_reducible refine (HCl.out _ _ l0).mono ?_); rintro r9 w1 ⟨v9, rfl, hown, hb⟩; obtain ⟨a2, c2, rfl, _⟩ := owns_list (F := fun _ => True) srOk hown (fun _ _ => trivial); replace K := (K.got hb hown).1; clear hb hown l0; have K1 := K.mades orOk ⟨0, ⟨#[]⟩⟩ m hml)))
  clear K hmk
  generalize hw0 : w1.alloc _ = w2 at *
  generalize hG : w1.heap.size = G at *
  clear hw0 hG
  go_loopw [17] (fun x wr => ∃ (j : Nat), x = .int .i64 (j : Int) ∧ j ≤ m ∧ Env w wr [Env.lst OR (Env.slv G m m) m (runR B (l.take j) ++ List.replicate (m - j) ⟨0, ⟨#[]⟩⟩), .own 9 1 (.slice a2 n c2) n (SR.all (runB B (l.take j)))]) (fun x _ => m - (intOf x).toNat)
  case atStart => exact ⟨0, rfl, by omega, K1⟩
  case round =>
    clear K1
    obtain ⟨j, rfl, hj, K⟩ := hrel
    by_cases hlt : j < m
    · obtain ⟨x, r, rfl, hr, e0, e1, e2⟩ := HC.out wr K.hb j hlt
      have hjI : (j : Int) < (m : Int) := by omega
      have q1 := Lib.hid (runB_next (B := B) hr)
      have q2 := Lib.hid (runR_next (B := B) hr)
      have hrl : (runR B (l.take j)).length = j := by rw [runR_len, List.length_take]; omega
      obtain ⟨xk, xb, xs⟩ := r
      simp only at e0 e1 e2
      have HA := Lib.hid (fun W T a c (K : Env w W (.own 9 1 (.slice a n c) n (SR.all (runB B (l.take j))) :: T)) => papply_any w W T _ a n c xk xb xs K)
      generalize runB B (l.take j) = BB at *
      generalize runR B (l.take j) = RX at *
      generalize applyB BB ⟨xk, xb, xs⟩ = BA at *
      generalize applyR BB ⟨xk, xb, xs⟩ = Z at *
      obtain ⟨ze, zd⟩ := Z
      simp only [resV] at HA
      have hset : RowKit.Hid ((RX ++ List.replicate (m - j) (⟨0, ⟨#[]⟩⟩ : Res)).set j ⟨ze, zd⟩ = (RX ++ [⟨ze, zd⟩]) ++ List.replicate (m - (j + 1)) ⟨0, ⟨#[]⟩⟩) := Lib.hid (by
        rw [List.set_append_right _ _ (by omega), hrl, Nat.sub_self, show m - j = (m - (j + 1)) + 1 by omega, List.replicate_succ, List.set_cons_zero, List.append_assoc]
        rfl)
      have K1 := K.al (.cells #[.int .i64 xk, .int .i64 xb, .string xs] 51)
      have K2 := K1.sub (T' := [.own 9 1 (.slice a2 n c2) n (SR.all BB), .box wr.heap.size (.cells #[.int .i64 xk, .int .i64 xb, .string xs] 51), Env.lst OR (Env.slv G m m) m (RX ++ List.replicate (m - j) ⟨0, ⟨#[]⟩⟩)]) [2, 0, 1] rfl (by simp) (by simp)
      clear hr hrl K K1
      go_wp2_with (first
        | ((with_reducible refine Plan.load_lit 51 (.tmp 9) (wr.heap.size) ?_ (K2.get 1 rfl) Tryz.underlying51 ?_ ?_ ?_); (· rfl); (· rfl); (· exact cmd_info); simp only [Act.put, List.setIfInBounds_toArray, List.set_cons_zero, List.set_cons_succ])
        | (go_at_call 129; ((with_reducible refine (HA.out _ _ _ _ K2).mono ?_); rintro r9 w3 ⟨rfl, K3⟩; clear K2))
        | ((with_reducible refine K3.idx_store (g := G) (c := m) (L := RX ++ List.replicate (m - j) ⟨0, ⟨#[]⟩⟩) orOk 27 (.tmp 22) (.tmp 23) (.tmp 26) ?_ ?_ 2 ?_ hlt ⟨ze, zd⟩ (j * 2) ?_ ?_ ?_ ?_ ?_); (· rfl); (· rfl); (· rfl); (· rfl); (· go_simp); (· rfl); (· rfl); intro w4 K4 _; simp only [List.set] at K4; rw [hset.out] at K4; clear K3))
      have K5 := K4.sub (T' := [Env.lst OR (Env.slv G m m) m ((RX ++ [⟨ze, zd⟩]) ++ List.replicate (m - (j + 1)) ⟨0, ⟨#[]⟩⟩), .own 9 1 (.slice a2 n c2) n (SR.all BA)]) [2, 0] rfl (by simp) (by simp)
      rw [← q1.out, ← q2.out] at K5
      go_roundw
      case rel => exact ⟨j + 1, by go_num, by omega, K5⟩
      case measure => simp [intOf]; omega
    · obtain rfl : j = m := by omega
      have hjI : ¬ (j : Int) < (j : Int) := by omega
      rw [List.take_of_length_le (by omega), Nat.sub_self, List.replicate_zero, List.append_nil] at K
      go_wp2_with fail
      go_ret2
      obtain ⟨a9, c9, e9, l9⟩ := owns_list (F := fun b => w.heap.size ≤ b) orOk (K.own 0 rfl) (fun b h9 => ((K.own 0 rfl).lt b h9).1)
      obtain ⟨a8, c8, e8, l8⟩ := owns_list (F := fun b => w.heap.size ≤ b) srOk (K.own 1 rfl) (fun b h9 => ((K.own 1 rfl).lt b h9).1)
      cases e9
      cases e8
      exact ⟨_, _, _, _, _, _, rfl, l8.mono (fun b _ h => .inr h), l9.mono (fun b _ h => .inr h), K.hb⟩
set_option maxHeartbeats 8000000 in
set_option maxRecDepth 20000 in
theorem pNew_any (n : Int) (w : World) : Calls Tryz.prog 107 #[.int .i64 n] w (SPost w (fun _ => False) (newB n)) := by
  have HZ := Lib.hid (fun W => zero_any W)
  unfold SPost newB
  by_cases h : n < 1 ∨ 128 < n
  · rw [if_pos h]
    clear HZ
    rcases h with h | h
    · go_enter Tryz.func107, Tryz.ntmps107
      go_wp2_with fail
      go_ret
      exact ⟨_, _, _, rfl, TList.nil _ _, Below.refl _ _⟩
    · have h2 : ¬ n < 1 := by omega
      go_enter Tryz.func107, Tryz.ntmps107
      go_wp2_with fail
      go_ret
      exact ⟨_, _, _, rfl, TList.nil _ _, Below.refl _ _⟩
  · rw [if_neg h]
    obtain ⟨m, rfl⟩ : ∃ m : Nat, n = (m : Int) := ⟨n.toNat, by omega⟩
    have h1 : ¬ (m : Int) < 1 := by omega
    have h2 : ¬ (128 : Int) < (m : Int) := by omega
    have hm : m ≤ 128 := by omega
    have hm1 : 1 ≤ m := by omega
    rw [Int.toNat_natCast]
    generalize zeroC = Z0 at *
    have HR := Lib.hid (fun W x fr (hx : W.heap[x]? = some (.cells #[.string Z0] 9 fr)) => srepeat_any Z0 x m W fr hx hm1 hm)
    clear h
    go_enter Tryz.func107, Tryz.ntmps107
    go_wp2_with (first
      | (go_at_call 133; ((with_reducible refine (HZ.out _).mono ?_); rintro r9 w1 ⟨rfl, hb⟩; have hx := heap_alloc_new w1 (.cells #[.string Z0] 9); have hA := hb.alloc hb.size (.cells #[.string Z0] 9)))
      | (go_at_call 132; ((with_reducible refine (HR.out _ _ _ hx).mono ?_); rintro r9 w2 ⟨g, rfl, hg, hgw, hb2⟩; clear hx)))
    go_ret
    have hgl : w.heap.size ≤ g := by have := hA.size; omega
    exact ⟨_, _, _, rfl, .inr ⟨_, rfl, Nat.le_refl _, by unfold maxLen; omega, by simp, e_lt hgw, .inr hgl, fun j u hu => by rw [Addr.add_lit, Nat.zero_add, cell_of_row _ g j _ _ _ hgw, List.getElem?_toArray]; exact hu⟩, hA.trans (hb2.mono hA.size)⟩
theorem modelOk : ModelOk where
  new := pNew_any
  apply := pApply_any
  run := pRun_any
end Go.Proofs.YtnmhnjjehglcfaaGreat.Ents

/- The walks of the program's small functions on operations, and of places. -/
namespace Go.Proofs.YtnmhnjjehglcfaaGreat.Ents
open Go.RowKit Plan HisMath LinMath ModMath CmdMath Rws Env LayMath SrchM
set_option maxHeartbeats 8000000 in
set_option maxRecDepth 20000 in
theorem isNoBlock_any (s : ByteArray) (w : World) : Calls Tryz.prog 38 #[.string s] w fun r w' => r = .returned (.bool (!decide (s.size = 16))) ∧ Below w.heap.size w w' := by
  have hb := Below.refl w.heap.size w
  go_enter Tryz.func38, Tryz.ntmps38
  go_wp2_with fail
  go_ret
  exact ⟨ret_b (by by_cases h : s.size = 16 <;> simp [h] <;> omega), hb⟩
set_option maxHeartbeats 8000000 in
set_option maxRecDepth 20000 in
theorem isRight_any (n k b : Int) (s : ByteArray) (w : World) : Calls Tryz.prog 102 #[.int .i64 n, cmdV k b s] w fun r w' => r = .returned (.bool (decide (checkC n k b s.size = 0))) ∧ Below w.heap.size w w' := by
  have HC := Lib.hid (fun W => commandOk.check 0 0 n 0 0 0 k b s W)
  have K := (Env.start w).al (.cells #[.int .i64 k, .int .i64 b, .string s] 51)
  unfold confV at HC
  generalize checkC n k b s.size = z at *
  go_enter Tryz.func102, Tryz.ntmps102
  go_wp2_with (first
    | ((with_reducible refine Plan.load_lit 51 (.tmp 3) w.heap.size ?_ (K.get 0 rfl) Tryz.underlying51 ?_ ?_ ?_); (· rfl); (· rfl); (· exact cmd_info); simp only [Act.put, List.setIfInBounds_toArray, List.set_cons_zero, List.set_cons_succ])
    | (go_at_call 131; ((with_reducible refine (HC.out _).mono ?_); rintro r9 w2 ⟨rfl, h9⟩; replace K := K.on h9; clear h9)))
  go_ret
  exact ⟨ret_b (by by_cases h : z = 0 <;> simp [h]), K.hb⟩
set_option maxHeartbeats 8000000 in
set_option maxRecDepth 20000 in
theorem isImpossible_any (x : Ev) (n : Int) (w : World) : Calls Tryz.prog 78 #[.int .i64 n, evV x] w fun r w' => r = .returned (.bool (impB n x)) ∧ Below w.heap.size w w' := by
  obtain ⟨xr, xq, xs, xk, xb, xd, xe, xx⟩ := x
  have K := (Env.start w).al (.cells #[.bool xr, .int .i64 xq, .int .i64 xs, .int .i64 xk, .int .i64 xb, .string xd, .int .i64 xe, .string xx] 55)
  have HC := Lib.hid (fun n W => isRight_any n xk xb xd W)
  obtain ⟨c0, c1, c2, c3, c4, c5, c6, c7⟩ := ev_cells (K.get 0 rfl)
  unfold impB
  simp only
  go_enter Tryz.func78, Tryz.ntmps78
  go_upto_region 1 with fail
  generalize w.alloc (.cells #[.bool xr, .int .i64 xq, .int .i64 xs, .int .i64 xk, .int .i64 xb, .string xd, .int .i64 xe, .string xx] 55) = w1 at *
  cases xr with
  | false =>
    go_wp2_with (first
      | (go_at_call 102; ((with_reducible refine (HC.out _ _).mono ?_); rintro r9 w2 ⟨rfl, h9⟩; replace K := K.on h9; clear h9)))
    go_ret
    exact ⟨ret_b rfl, K.hb⟩
  | true =>
    by_cases hz : xe = 0
    · subst hz
      go_wp2_with (first
        | (go_at_call 102; ((with_reducible refine (HC.out _ _).mono ?_); rintro r9 w2 ⟨rfl, h9⟩; replace K := K.on h9; clear h9)))
      go_ret
      exact ⟨ret_b (by simp), K.hb⟩
    · have hzd : decide (xe = 0) = false := decide_eq_false hz
      go_wp2_with (first
        | (go_at_call 102; ((with_reducible refine (HC.out _ _).mono ?_); rintro r9 w2 ⟨rfl, h9⟩; replace K := K.on h9; clear h9)))
      go_ret
      exact ⟨ret_b (by simp [hz]), K.hb⟩
set_option maxHeartbeats 8000000 in
set_option maxRecDepth 20000 in
theorem isNotNeeded_any (x : Ev) (w : World) : Calls Tryz.prog 87 #[evV x] w fun r w' => r = .returned (.bool (!needB x)) ∧ Below w.heap.size w w' := by
  obtain ⟨xr, xq, xs, xk, xb, xd, xe, xx⟩ := x
  have K := (Env.start w).al (.cells #[.bool xr, .int .i64 xq, .int .i64 xs, .int .i64 xk, .int .i64 xb, .string xd, .int .i64 xe, .string xx] 55)
  have HC := Lib.hid (fun n W => isRight_any n xk xb xd W)
  obtain ⟨c0, c1, c2, c3, c4, c5, c6, c7⟩ := ev_cells (K.get 0 rfl)
  unfold needB err1
  simp only
  go_enter Tryz.func87, Tryz.ntmps87
  go_upto_region 1 with fail
  generalize w.alloc (.cells #[.bool xr, .int .i64 xq, .int .i64 xs, .int .i64 xk, .int .i64 xb, .string xd, .int .i64 xe, .string xx] 55) = w1 at *
  cases xr with
  | true =>
    by_cases hz : xe = 0
    · subst hz
      go_wp2_with (first
        | (go_at_call 102; ((with_reducible refine (HC.out _ _).mono ?_); rintro r9 w2 ⟨rfl, h9⟩; replace K := K.on h9; clear h9)))
      go_ret
      exact ⟨ret_b (by simp), K.hb⟩
    · have hzd : decide (xe = 0) = false := decide_eq_false hz
      go_wp2_with (first
        | (go_at_call 102; ((with_reducible refine (HC.out _ _).mono ?_); rintro r9 w2 ⟨rfl, h9⟩; replace K := K.on h9; clear h9)))
      go_ret
      exact ⟨ret_b (by simp [hz]), K.hb⟩
  | false =>
    by_cases hk : xk = 1
    · subst hk
      go_wp2_with (first
        | (go_at_call 102; ((with_reducible refine (HC.out _ _).mono ?_); rintro r9 w2 ⟨rfl, h9⟩; replace K := K.on h9; clear h9)))
      go_ret
      exact ⟨ret_b (by simp), K.hb⟩
    · have hkd : decide (xk = 1) = false := decide_eq_false hk
      go_wp2_with (first
        | (go_at_call 102; ((with_reducible refine (HC.out _ _).mono ?_); rintro r9 w2 ⟨rfl, h9⟩; replace K := K.on h9; clear h9)))
      go_ret
      exact ⟨ret_b (by simp [hk]), K.hb⟩
set_option maxHeartbeats 8000000 in
set_option maxRecDepth 20000 in
theorem stepsF_any (x : Ev) (w : World) : Calls Tryz.prog 85 #[evV x] w fun r w' => r = .returned (.bool (impB 1 x)) ∧ Below w.heap.size w w' := by
  obtain ⟨xr, xq, xs, xk, xb, xd, xe, xx⟩ := x
  have K := (Env.start w).al (.cells #[.bool xr, .int .i64 xq, .int .i64 xs, .int .i64 xk, .int .i64 xb, .string xd, .int .i64 xe, .string xx] 55)
  have HC := Lib.hid (fun W => isImpossible_any ⟨xr, xq, xs, xk, xb, xd, xe, xx⟩ 1 W)
  generalize impB 1 ⟨xr, xq, xs, xk, xb, xd, xe, xx⟩ = z at *
  go_enter Tryz.func85, Tryz.ntmps85
  go_wp2_with (first
    | ((with_reducible refine Plan.load_lit 55 (.tmp 1) w.heap.size ?_ (K.get 0 rfl) Tryz.underlying55 ?_ ?_ ?_); (· rfl); (· rfl); (· exact ev_info); simp only [Act.put, List.setIfInBounds_toArray, List.set_cons_zero, List.set_cons_succ])
    | (go_at_call 78; ((with_reducible refine (HC.out _).mono ?_); rintro r9 w2 ⟨rfl, h9⟩; replace K := K.on h9; clear h9)))
  go_ret
  exact ⟨rfl, K.hb⟩
theorem inm_und : Tryz.prog.underlying 80 = some (.map 3 3) := by kernel_rfl
theorem inm_zero (W : World) : (zeroValue 3).run Tryz.prog W = .ok (.int .i64 0) W := by kernel_rfl
/-- the places of the returns, or of the invocations, of the beginning: the last one of each Serial -/
def plcF (q : Bool) (L : List Ev) : Nat → Int → Option Value
  | 0 => fun _ => none
  | n + 1 => match L[n]? with
    | some e => if e.ret = q then putF (plcF q L n) e.serial (.int .i64 (n : Int)) else plcF q L n
    | none => plcF q L n
theorem plc_next (q : Bool) {L : List Ev} {j : Nat} {e : Ev} (he : L[j]? = some e) : (e.ret = q → plcF q L (j + 1) = putF (plcF q L j) e.serial (.int .i64 (j : Int))) ∧ (¬ e.ret = q → plcF q L (j + 1) = plcF q L j) :=
  ⟨fun h => by simp [plcF, he, h], fun h => by simp [plcF, he, h]⟩
set_option maxHeartbeats 8000000 in
set_option maxRecDepth 20000 in
/-- the last place of each Serial in the beginning -/
theorem places_any (F : Nat → Prop) (L : List Ev) (a : Option Addr) (n c : Nat) (q : Bool) (w : World) (hl : VList w F a n c L) (hm : n ≤ 100000) :
    Calls Tryz.prog 49 #[.slice a n c, .bool q] w fun r w' => ∃ mb, r = .returned (.map (some mb)) ∧ Env w w' [imapT mb (plcF q L n)] := by
  have hcp := hl.cap
  unfold maxLen at hcp
  have HAT := Lib.hid (fun W (h : Below w.heap.size w W) i (hi : i < n) => ev_at (hl.same h) i hi)
  have hmm := fun W => (show (Instr.makeMap 80 none).run Tryz.prog W = .ok (.map (some W.heap.size)) (W.alloc (.map #[] 0)) from rfl)
  have K := env_mnew (Env.start w)
  rw [show (fun _ => none : Int → Option Value) = plcF q L 0 from rfl] at K
  clear hl
  go_enter Tryz.func49, Tryz.ntmps49
  go_wp2_with fail
  clear hmm
  obtain ⟨mb, hmb⟩ : ∃ mb, mb = w.heap.size := ⟨_, rfl⟩
  simp only [← hmb] at K ⊢
  have hmbh := Lib.hid hmb
  clear hmb
  generalize w.alloc (.map #[] 0) = w0 at *
  go_loopw [11] (fun x wr => ∃ (j : Nat), x = .int .i64 (j : Int) ∧ j ≤ n ∧ Env w wr [imapT mb (plcF q L j)]) (fun x _ => n - (intOf x).toNat)
  case atStart => exact ⟨0, rfl, by omega, K⟩
  case round =>
    clear K
    obtain ⟨j, rfl, hj, K⟩ := hrel
    by_cases hlt : j < n
    · obtain ⟨x, e, rfl, he, c0, c1, c2, c3, c4, c5, c6, c7⟩ := HAT.out wr K.hb j hlt
      have hjI : (j : Int) < (n : Int) := by omega
      have HQ := Lib.hid (plc_next q he)
      obtain ⟨xr, xq, xs, xk, xb, xd, xe, xx⟩ := e
      simp only at c0 c1 c2 c3 c4 c5 c6 c7 HQ
      clear he
      go_upto_region 5 with fail
      replace K := K.al (.cells #[.bool xr, .int .i64 xq, .int .i64 xs, .int .i64 xk, .int .i64 xb, .string xd, .int .i64 xe, .string xx] 55)
      obtain ⟨g, hg⟩ : ∃ g, wr.heap.size = g := ⟨_, rfl⟩
      rw [hg] at K
      simp only [hg]
      generalize wr.alloc (.cells #[.bool xr, .int .i64 xq, .int .i64 xs, .int .i64 xk, .int .i64 xb, .string xd, .int .i64 xe, .string xx] 55) = w1 at *
      clear c0 c1 c2 c3 c4 c5 c6 c7 hg
      obtain ⟨c0, c1, c2, c3, c4, c5, c6, c7⟩ := ev_cells (K.get 0 rfl)
      by_cases hq : xr = q
      · have hN := Lib.hid (HQ.out.1 hq)
        have hqd : (xr == q) = true := by simp [hq]
        obtain ⟨W', hup, KM, _⟩ := env_mput inm_und K 1 rfl xs (.int .i64 (j : Int))
        simp only [List.set] at KM
        rw [← hN.out] at KM
        clear hq HQ
        go_wp2_with fail
        go_roundw
        case rel => exact ⟨j + 1, by go_num, by omega, KM.tail⟩
        case measure => simp [intOf]; omega
      · have hN := Lib.hid (HQ.out.2 hq)
        have hqd : (xr == q) = false := by simp [hq]
        have KT := K.tail
        rw [← hN.out] at KT
        clear hq HQ
        go_wp2_with fail
        go_roundw
        case rel => exact ⟨j + 1, by go_num, by omega, KT⟩
        case measure => simp [intOf]; omega
    · obtain rfl : j = n := by omega
      have hjI : ¬ (j : Int) < (j : Int) := by omega
      go_wp2_with fail
      go_ret
      exact ⟨mb, rfl, K⟩
end Go.Proofs.YtnmhnjjehglcfaaGreat.Ents
