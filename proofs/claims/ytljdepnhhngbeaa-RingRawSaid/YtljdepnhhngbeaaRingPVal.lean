
/- The walks of the program's Valid and New of rings, and of the library's Clone at requests. -/
import Derived.Test.YtljdepnhhngbeaaRingPLeaf
import Derived.Test.YtljdepnhhngbeaaBaseFull
import Derived.Test.YtljdepnhhngbeaaRingTake
import Derived.Lib.SliceRun
namespace Go.Proofs.Ytljdepnhhngbeaa.Ents
open Go.RowKit Plan RingMath Rws Env
set_option maxHeartbeats 4000000 in
set_option maxRecDepth 20000 in
theorem ringValid_any (F : Nat → Prop) (L : List Rq) (d : Int) (a : Option Addr) (n c : Nat) (w : World) (hl : GList w F a n c L) :
    Calls Try.prog 15 #[rgV d a n c] w fun r w' => r = .returned (.bool (validG d L)) ∧ Below w.heap.size w w' := by
  have hlen := hl.length
  have hmx : n ≤ maxLen := Nat.le_trans hl.cap.1 hl.cap.2
  unfold maxLen at hmx
  have HP := Lib.hid (ringPossible_any d)
  have HA := Lib.hid (fun W (h : Below w.heap.size w W) => ringAscend_any _ L a n c W (hl.same h))
  have K := (Env.start w).al (rgRow d a n c)
  have hres : validG d L = (decide (1 ≤ d) && decide (d ≤ 8) && decide ((n : Int) ≤ d) && ascB L) := by unfold validG ascB; rw [hlen]
  rw [hres]
  generalize (decide (1 ≤ d) && decide (d ≤ 8)) = P at *
  generalize ascB L = A at *
  clear hl hres hlen
  by_cases hq : (n : Int) ≤ d
  · have hqd : decide ((n : Int) ≤ d) = true := decide_eq_true hq
    rw [hqd]
    cases P <;> cases A
    all_goals
      go_enter Try.func15, Try.ntmps15
      generalize hw0 : w.alloc (rgRow d a n c) = w0 at *
      obtain ⟨c0, c1⟩ := rg_cells (K.get 0 rfl)
      go_wp2_with (first
        | (go_at_call 12; ((with_reducible refine (HP.out _).mono ?_); rintro r9 w9 ⟨rfl, rfl⟩))
        | (go_at_call 19; ((with_reducible refine (HA.out _ K.hb).mono ?_); rintro r9 w9 ⟨rfl, hb9⟩; have K := K.on hb9)))
      go_ret
      exact ⟨rfl, K.hb⟩
  · have hqd : decide ((n : Int) ≤ d) = false := decide_eq_false hq
    rw [hqd]
    cases P
    all_goals
      go_enter Try.func15, Try.ntmps15
      generalize hw0 : w.alloc (rgRow d a n c) = w0 at *
      obtain ⟨c0, c1⟩ := rg_cells (K.get 0 rfl)
      go_wp2_with (first
        | (go_at_call 12; ((with_reducible refine (HP.out _).mono ?_); rintro r9 w9 ⟨rfl, rfl⟩))
        | (go_at_call 19; ((with_reducible refine (HA.out _ K.hb).mono ?_); rintro r9 w9 ⟨rfl, hb9⟩; have K := K.on hb9)))
      go_ret
      exact ⟨rfl, K.hb⟩
set_option maxHeartbeats 4000000 in
set_option maxRecDepth 20000 in
theorem ringNew_any (F : Nat → Prop) (d : Int) (w : World) :
    Calls Try.prog 6 #[.int .i64 d] w (GPost w F (newD d) [] (newE d)) := by
  have K := (Env.start w).al (rgRow 0 none 0 0)
  have HP := Lib.hid (ringPossible_any d)
  unfold GPost newD newE
  by_cases h : d < 1 ∨ 8 < d
  · rw [if_pos h, if_pos h]
    have e1 : (decide (1 ≤ d) && decide (d ≤ 8)) = false := by rcases h with h | h <;> simp <;> omega
    rw [e1] at HP
    clear h e1
    go_enter Try.func6, Try.ntmps6
    generalize hw0 : w.alloc (rgRow 0 none 0 0) = w0 at *
    go_wp2_with (first
      | (go_at_call 12; ((with_reducible refine (HP.out _).mono ?_); rintro r9 w9 ⟨rfl, rfl⟩))
      | ((with_reducible refine Plan.store_lit 24 (.tmp 2) _ w.heap.size #[.int .i64 0, .slice none 0 0] (K.get 0 rfl) ?_ ?_ ?_ ?_ ?_ ?_); rotate_left; (· rfl); (· exact rg_info); (· rfl); (· simp [Value.oneCell']); rotate_left; (· rfl); simp only [Act.put]; have K9 := K.put 0 rfl (cs' := #[.int .i64 0, .slice none 0 0]) rfl; simp only [List.set] at K9))
    exact bodyPost_ret (Plan.results_cell_tmp (p := 2) (q := 3) rfl _ _ _ _ _ _ _ rfl (K9.get 0 rfl) Try.underlying24 rfl rg_info) rfl ⟨none, 0, 0, rfl, TList.nil _ _, K9.hb⟩
  · rw [if_neg h, if_neg h]
    have e1 : (decide (1 ≤ d) && decide (d ≤ 8)) = true := by simp; omega
    rw [e1] at HP
    clear h e1
    go_enter Try.func6, Try.ntmps6
    generalize hw0 : w.alloc (rgRow 0 none 0 0) = w0 at *
    go_wp2_with (first
      | (go_at_call 12; ((with_reducible refine (HP.out _).mono ?_); rintro r9 w9 ⟨rfl, rfl⟩))
      | ((with_reducible refine Plan.store_lit 24 (.tmp 2) _ w.heap.size #[.int .i64 d, .slice none 0 0] (K.get 0 rfl) ?_ ?_ ?_ ?_ ?_ ?_); rotate_left; (· rfl); (· exact rg_info); (· rfl); (· simp [Value.oneCell']); rotate_left; (· rfl); simp only [Act.put]; have K9 := K.put 0 rfl (cs' := #[.int .i64 d, .slice none 0 0]) rfl; simp only [List.set] at K9))
    exact bodyPost_ret (Plan.results_cell_tmp (p := 2) (q := 3) rfl _ _ _ _ _ _ _ rfl (K9.get 0 rfl) Try.underlying24 rfl rg_info) rfl ⟨none, 0, 0, rfl, TList.nil _ _, K9.hb⟩
/-- what a function that gives a list of its own leaves -/
def OwnGPost (w : World) (L : List Rq) (r : Ending) (w' : World) : Prop :=
  ∃ a n c, r = .returned (.slice a n c) ∧ GList w' (fun b => w.heap.size ≤ b) a n c L ∧ Below w.heap.size w w'
set_option maxHeartbeats 4000000 in
set_option maxRecDepth 20000 in
theorem ringClone_any (F : Nat → Prop) (L : List Rq) (x : Addr) (n c : Nat) (w : World) (hl : GList w F (some x) n c L) (hm : n ≤ 900000) :
    Calls Try.prog 17 #[.slice (some x) n c] w (OwnGPost w L) := by
  have K : Env w (w.alloc (.cells #[] 28)) (Env.lst RQ (Env.slv w.heap.size 0 0) 0 [] :: _) := (Env.start w).empty RQ
  have HL := Lib.hid (hl.same K.hb)
  unfold OwnGPost
  clear hl
  have q22 : ∀ (w : World) (a : Option Addr) (n c n' c' : Nat), (binOp .eql 22 (.slice a n c) (.slice none n' c')).run Try.prog w = .ok (.bool a.isNone) w := fun w a n c n' c' => Lib.run_eql_slice_nil w _ _ a n c n' c' Try.underlying22
  go_enter Try.func17, Try.ntmps17
  go_wp2_with (first
    | (at_builtin; refine K.apps_list rqOk rfl (.tmp 5) (.tmp 6) rfl 0 rfl rfl rfl HL.out (by omega) ?_; intro gA cA w3 K9 _; simp only [List.set, Nat.zero_add, List.nil_append] at K9; simp only [Nat.zero_add, Act.put, List.setIfInBounds_toArray, List.set_cons_zero, List.set_cons_succ]))
  go_ret
  exact ⟨_, _, _, rfl, K9.list rqOk 0 rfl, K9.hb⟩
end Go.Proofs.Ytljdepnhhngbeaa.Ents
