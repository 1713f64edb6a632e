
/- The walk of the maker's Next, for any dice. -/
import Derived.Test.YtigmjpkhpoolkaaMakeDice
namespace Go.Proofs.Ytigmjpkhpoolkaa
open Go.RowKit Plan

/-- behind Next: the number, the dice one further, nothing else changed -/
def NextPost (w : World) (base g : Nat) (zs : List Int) (k : Nat) (n : Int) (e : Ending) (w' : World) : Prop :=
  e = .returned (.int .i64 (nxt zs k n)) ∧ Dice w' base g zs (stp zs k) ∧ w.grownBy w' (some g) ∧ w'.heap.size = w.heap.size
theorem dice_drew {w : World} {base g : Nat} {zs : List Int} {k : Nat} (h : Dice w base g zs k) : Dice w.drew base g zs k := dice_on h (Below.refl _ _).drew (Nat.le_refl _)
theorem grownBy_drew (w : World) (r : Option Nat) : w.grownBy w.drew r := ⟨rfl, rfl, rfl, Nat.le_refl _, fun _ _ _ => rfl⟩
set_option maxHeartbeats 400000 in
theorem next_end (w : World) (base g : Nat) (zs : List Int) (k : Nat) (n : Int) (hd : Dice w base g zs k) (hk : zs.length ≤ k) :
    Calls Try.prog 12 #[.pointer (some ⟨g, 0, none⟩), .int .i64 n] w (NextPost w base g zs k n) := by
  have hd2 := dice_drew hd
  obtain ⟨v, hg, hown, hne, hb⟩ := hd
  have c0 := cell_of_row _ _ 0 _ _ _ hg
  have c1 := cell_of_row _ _ 1 _ _ _ hg
  simp only [List.getElem?_toArray, List.getElem?_cons_zero, List.getElem?_cons_succ] at c0 c1
  have hle : decide ((zs.length : Int) ≤ (k : Int)) = true := by simp; omega
  have hv : v = .slice none 0 0 ∧ zs.length = 0 ∨ ∃ b c, v = .slice (some ⟨b, 0, none⟩) zs.length c := by
    rcases hown.2 with h | ⟨b, c, _, h, _⟩
    · exact .inl h
    · exact .inr ⟨b, c, h⟩
  have hx : nxt zs k n = 0 := if_neg (by omega)
  have hs : stp zs k = k := if_neg (by omega)
  have HX := Lib.hid hx
  have HS := Lib.hid hs
  have HD := Lib.hid hd2
  clear hx hs hd2 hg hown
  rcases hv with ⟨rfl, h0⟩ | ⟨b, c, rfl⟩
  · rw [h0] at hle
    clear h0
    go_enter Try.func12, Try.ntmps12
    go_wp2_with fail
    refine Plan.start (fun w' => w' = w.drew) [(0, true), (1, true), (2, true), (3, true), (4, true), (5, true), (6, true), (7, true), (8, true), (9, true)] (by kernel_rfl) (by kernel_rfl) (by kernel_rfl) (by kernel_rfl) rfl ?_
    simp only [List.map_cons, List.map_nil, List.getElem?_toArray, List.getElem?_cons_zero, List.getElem?_cons_succ]
    repeat (first | (refine Plan.take ?_ (by rfl) ?_ ?_; rotate_left; (· rintro w9 rfl; go_simp; (try rw [if_neg (by omega)]); all_goals (with_reducible rfl)); simp only [Act.put, List.setIfInBounds_toArray, List.set_cons_zero, List.set_cons_succ]) | (refine Plan.pass (by rfl) ?_; simp only [Act.put, List.setIfInBounds_toArray, List.set_cons_zero, List.set_cons_succ]))
    refine Plan.ends ?_
    go_wp2
    go_ret
    exact ⟨ret_i64 HX.out.symm, by rw [HS.out]; exact HD.out, grownBy_drew _ _, rfl⟩
  · go_enter Try.func12, Try.ntmps12
    go_wp2_with fail
    refine Plan.start (fun w' => w' = w.drew) [(0, true), (1, true), (2, true), (3, true), (4, true), (5, true), (6, true), (7, true), (8, true), (9, true)] (by kernel_rfl) (by kernel_rfl) (by kernel_rfl) (by kernel_rfl) rfl ?_
    simp only [List.map_cons, List.map_nil, List.getElem?_toArray, List.getElem?_cons_zero, List.getElem?_cons_succ]
    repeat (first | (refine Plan.take ?_ (by rfl) ?_ ?_; rotate_left; (· rintro w9 rfl; go_simp; (try rw [if_neg (by omega)]); all_goals (with_reducible rfl)); simp only [Act.put, List.setIfInBounds_toArray, List.set_cons_zero, List.set_cons_succ]) | (refine Plan.pass (by rfl) ?_; simp only [Act.put, List.setIfInBounds_toArray, List.set_cons_zero, List.set_cons_succ]))
    refine Plan.ends ?_
    go_wp2
    go_ret
    exact ⟨ret_i64 HX.out.symm, by rw [HS.out]; exact HD.out, grownBy_drew _ _, rfl⟩
theorem dice_step {w : World} {base g : Nat} {zs : List Int} {k : Nat} (h : Dice w base g zs k) (j : Nat) : Dice (w.setCell ⟨g, 1, none⟩ (.int .i64 j)) base g zs j := by
  obtain ⟨v, hg, hown, hne, hb⟩ := h
  refine ⟨v, ?_, hown.kept (row := some g) ⟨rfl, rfl, rfl, Nat.le_of_eq (by simp [World.setCell]), fun i _ hne => Below.heap_setCell w ⟨g, 1, none⟩ _ i (fun e => hne (by rw [e]))⟩ (.inr fun e => Nat.lt_irrefl _ (hne g e)), hne, hb⟩
  rw [setCell_eq_setRow w g 1 _ _ _ _ hg]
  exact setRow_heap w g _ _ _ _ hg
theorem grownBy_step (w : World) (g : Nat) (x : Value) : w.grownBy (w.setCell ⟨g, 1, none⟩ x) (some g) :=
  ⟨rfl, rfl, rfl, Nat.le_of_eq (by simp [World.setCell]), fun i _ hne => Below.heap_setCell w ⟨g, 1, none⟩ _ i (fun e => hne (by rw [e]))⟩
theorem grownBy_trans {a b c : World} {r : Option Nat} (h : a.grownBy b r) (h2 : b.grownBy c r) : a.grownBy c r :=
  ⟨h2.os.trans h.os, h2.tape.trans h.tape, h2.output.trans h.output, Nat.le_trans h.size h2.size, fun k hk hr => (h2.block k (Nat.lt_of_lt_of_le hk h.size) hr).trans (h.block k hk hr)⟩
set_option maxHeartbeats 1000000 in
theorem next_more (w : World) (base g : Nat) (zs : List Int) (k : Nat) (n : Int) (hd : Dice w base g zs k) (hk : k < zs.length) (hl : zs.length ≤ 100000) (hn1 : 1 ≤ n) (hn2 : n ≤ 4611686018427387904) :
    Calls Try.prog 12 #[.pointer (some ⟨g, 0, none⟩), .int .i64 n] w (NextPost w base g zs k n) := by
  have hstep := dice_step (dice_drew hd) (k + 1)
  obtain ⟨v, hg, hown, hne, hb⟩ := hd
  have c0 := cell_of_row _ _ 0 _ _ _ hg
  have c1 := cell_of_row _ _ 1 _ _ _ hg
  simp only [List.getElem?_toArray, List.getElem?_cons_zero, List.getElem?_cons_succ] at c0 c1
  have f1 : w.frozen? ⟨g, 1, none⟩ = false := by simp [World.frozen?, hg]
  have hle : decide ((zs.length : Int) ≤ (k : Int)) = false := by simp; omega
  have hv : ∃ b c, v = .slice (some ⟨b, 0, none⟩) zs.length c := by
    rcases hown.2 with ⟨_, h⟩ | ⟨b, c, _, h, _⟩
    · omega
    · exact ⟨b, c, h⟩
  obtain ⟨b, c, rfl⟩ := hv
  have hbg : b ≠ g := Nat.ne_of_lt (hne b rfl)
  have ck := hown.cells (g := b) rfl k (.int .i64 (zs.getD k 0)) (by
    simp only [ints, List.getElem?_map, List.getElem?_eq_getElem hk, Option.map_some]
    rw [List.getD_eq_getElem?_getD, List.getElem?_eq_getElem hk]
    rfl)
  have hadd : (⟨b, 0, none⟩ : Addr).add k = ⟨b, k, none⟩ := by unfold Addr.add; split <;> simp_all
  rw [hadd] at ck
  have hm : ∀ w, Calls Try.prog 30 #[.int .i64 (zs.getD k 0), .int .i64 n] w fun e w' => e = .returned (.int .i64 (zs.getD k 0 % n)) ∧ w = w' := fun w => mod_any _ n hn1 hn2 w
  have hx : nxt zs k n = zs.getD k 0 % n := if_pos hk
  have hs : stp zs k = k + 1 := if_pos hk
  have hwk : IntKind.i64.wrap (k : Int) = (k : Int) := IntWalk.i64_in _ (by omega)
  have k0 : (0 : Int) ≤ (k : Int) := by omega
  have k1 : (k : Int) < (zs.length : Int) := by omega
  have HX := Lib.hid hx
  have HS := Lib.hid hs
  have HD := Lib.hid hstep
  have HM := Lib.hid hm
  clear hx hs hstep hm hg hown hadd hne hk
  generalize zs.getD k 0 = z at *
  generalize zs.length = L at *
  go_enter Try.func12, Try.ntmps12
  go_wp2_with fail
  refine Plan.start (fun w' => w' = w.drew) [(0, true), (1, true), (2, true), (3, true), (4, true), (5, true), (6, true), (7, true), (8, true), (9, true)] (by kernel_rfl) (by kernel_rfl) (by kernel_rfl) (by kernel_rfl) rfl ?_
  simp only [List.map_cons, List.map_nil, List.getElem?_toArray, List.getElem?_cons_zero, List.getElem?_cons_succ]
  repeat (first | (refine Plan.take ?_ (by rfl) ?_ ?_; rotate_left; (· rintro w9 rfl; go_simp; (try rw [if_neg (by omega)]); all_goals (with_reducible rfl)); simp only [Act.put, List.setIfInBounds_toArray, List.set_cons_zero, List.set_cons_succ]) | (refine Plan.pass (by rfl) ?_; simp only [Act.put, List.setIfInBounds_toArray, List.set_cons_zero, List.set_cons_succ]))
  refine Plan.ends ?_
  go_wp2_with fail
  have d0 : (w.setCell ⟨g, 1, none⟩ (.int .i64 ((k : Int) + 1))).drew.cell? ⟨g, 0, none⟩ = some (.slice (some ⟨b, 0, none⟩) L c) := (World.cell?_setCell_other _ _ _ _ (by simp)).trans c0
  have d1 : (w.setCell ⟨g, 1, none⟩ (.int .i64 ((k : Int) + 1))).drew.cell? ⟨g, 1, none⟩ = some (.int .i64 ((k : Int) + 1)) := World.cell?_setCell_same _ _ _ c1
  have dk : (w.setCell ⟨g, 1, none⟩ (.int .i64 ((k : Int) + 1))).drew.cell? ⟨b, k, none⟩ = some (.int .i64 z) := (World.cell?_setCell_other _ _ _ _ (by intro h; cases h; exact hbg rfl)).trans ck
  have e1 : w.grownBy (w.setCell ⟨g, 1, none⟩ (.int .i64 ((k : Int) + 1))).drew (some g) := grownBy_trans (grownBy_step w g _) (grownBy_drew _ _)
  have e2 : (w.setCell ⟨g, 1, none⟩ (.int .i64 ((k : Int) + 1))).drew.heap.size = w.heap.size := by simp [World.setCell, World.drew]
  have e3 : Dice (w.setCell ⟨g, 1, none⟩ (.int .i64 ((k : Int) + 1))).drew base g zs (k + 1) := by
    have h := HD.out
    rw [show ((k + 1 : Nat) : Int) = (k : Int) + 1 by omega] at h
    exact h
  generalize (w.setCell ⟨g, 1, none⟩ (.int .i64 ((k : Int) + 1))).drew = W at d0 d1 dk e1 e2 e3 ⊢
  have E3 := Lib.hid e3
  have E2 := Lib.hid e2
  clear e2 e3 c0 c1 ck HD
  refine Plan.start (fun w' => w' = W.drew) [(0, true), (1, true), (2, true), (3, true), (4, true), (5, true), (6, true), (7, true), (8, true), (9, true), (10, true), (11, true), (12, false), (13, true)] (by kernel_rfl) (by kernel_rfl) (by kernel_rfl) (by kernel_rfl) rfl ?_
  simp only [List.map_cons, List.map_nil, List.getElem?_toArray, List.getElem?_cons_zero, List.getElem?_cons_succ]
  repeat (first | (refine Plan.take ?_ (by rfl) ?_ ?_; rotate_left; (· rintro w9 rfl; go_simp; (try rw [if_neg (by omega)]); all_goals (with_reducible rfl)); simp only [Act.put, List.setIfInBounds_toArray, List.set_cons_zero, List.set_cons_succ]) | (refine Plan.pass (by rfl) ?_; simp only [Act.put, List.setIfInBounds_toArray, List.set_cons_zero, List.set_cons_succ]))
  refine Plan.call (by rfl) 30 _ ?_ (HM.out _) ?_
  · go_simp
  rintro e w1 ⟨rfl, rfl⟩
  refine ⟨_, rfl, rfl, ?_⟩
  simp only [Act.put, List.setIfInBounds_toArray, List.set_cons_zero, List.set_cons_succ]
  repeat (first | (refine Plan.take ?_ (by rfl) ?_ ?_; rotate_left; (· rintro w9 rfl; go_simp; (try rw [if_neg (by omega)]); all_goals (with_reducible rfl)); simp only [Act.put, List.setIfInBounds_toArray, List.set_cons_zero, List.set_cons_succ]) | (refine Plan.pass (by rfl) ?_; simp only [Act.put, List.setIfInBounds_toArray, List.set_cons_zero, List.set_cons_succ]))
  refine Plan.ends ?_
  go_wp2
  go_ret
  exact ⟨ret_i64 HX.out.symm, by rw [HS.out]; exact dice_drew E3.out, grownBy_trans e1 (grownBy_drew _ _), E2.out⟩
/-- Next, for any dice of at most 100000 numbers -/
theorem next_any (w : World) (base g : Nat) (zs : List Int) (k : Nat) (n : Int) (hd : Dice w base g zs k) (hl : zs.length ≤ 100000) (hn1 : 1 ≤ n) (hn2 : n ≤ 4611686018427387904) :
    Calls Try.prog 12 #[.pointer (some ⟨g, 0, none⟩), .int .i64 n] w (NextPost w base g zs k n) := by
  by_cases hk : k < zs.length
  · exact next_more w base g zs k n hd hk hl hn1 hn2
  · exact next_end w base g zs k n hd (by omega)
end Go.Proofs.Ytigmjpkhpoolkaa
