
/- The walks of Slots, the program's and the document's. -/
import Derived.Test.YteifpflnadjjkaaLayIsData
import Derived.Test.YteifpflnadjjkaaMakeDice
import Derived.Laws.CopyOwn
namespace Go.Proofs.Yteifpflnadjjkaa
open Go.RowKit Plan LayMath
/-- a list of numbers that was given back: nothing, or a block of its own -/
def ListAt (w : World) (v : Value) (L : List Int) : Prop := (v = .slice none 0 0 ∧ L = []) ∨ ∃ g cap, v = .slice (some ⟨g, 0, none⟩) L.length cap ∧ 1 ≤ L.length ∧ g < w.heap.size ∧ ∀ (i : Nat) x, L[i]? = some x → w.cell? ⟨g, i, none⟩ = some (.int .i64 x)
theorem ListAt.on {w w' : World} {v : Value} {L : List Int} (h : ListAt w v L) (hb : Below w.heap.size w w') : ListAt w' v L := by
  rcases h with h | ⟨g, cap, h1, h0, h2, h3⟩
  · exact .inl h
  · exact .inr ⟨g, cap, h1, h0, Nat.lt_of_lt_of_le h2 hb.size, fun i x hi => (hb.cell (p := ⟨g, i, none⟩) h2).trans (h3 i x hi)⟩
/-- what Slots leaves -/
def SlotPost (w : World) (L : List Int) (e : Ending) (w' : World) : Prop := ∃ v, e = .returned v ∧ ListAt w' v L ∧ Below w.heap.size w w'
theorem upto_length (P : Int) (n : Nat) : (upto P n).length = n := by simp [upto]
theorem upto_next (P : Int) (n : Nat) : upto P (n + 1) = upto P n ++ [P + (n : Int)] := by simp [upto, List.range_succ]
theorem upto_get {P : Int} {n i : Nat} {x : Int} (h : (upto P n)[i]? = some x) : i < n ∧ x = P + (i : Int) := by
  have hi : i < n := by
    have := (List.getElem?_eq_some_iff.1 h).1
    rwa [upto_length] at this
  unfold upto at h
  rw [List.getElem?_map, List.getElem?_range hi] at h
  exact ⟨hi, (Option.some.inj h).symm⟩
theorem ints_upto (P : Int) (n : Nat) : ints (upto P (n + 1)) = ints (upto P n) ++ [.int .i64 (P + (n : Int))] := by rw [upto_next]; simp [ints]
theorem listAt_owned {w : World} {B n : Nat} {v : Value} {P : Int} (h : w.ownsRow B 3 1 v n (ints (upto P n))) (hn : 1 ≤ n) : ListAt w v (upto P n) := by
  have hlt : ∀ g cap, v = .slice (some ⟨g, 0, none⟩) n cap → g < w.heap.size := fun g cap e => (h.lt g (by rw [e]; rfl)).2
  have hc : ∀ g cap, v = .slice (some ⟨g, 0, none⟩) n cap → ∀ (i : Nat) x, (upto P n)[i]? = some x → w.cell? ⟨g, i, none⟩ = some (.int .i64 x) := fun g cap e i x hi => by
    subst e
    have := h.cells (g := g) rfl i (.int .i64 x) (by unfold ints; rw [List.getElem?_map, hi]; rfl)
    rwa [Addr.add_lit, Nat.zero_add] at this
  rcases h.2 with ⟨_, h0⟩ | ⟨g, cap, cur, e, _⟩
  · omega
  · exact .inr ⟨g, cap, by rw [upto_length]; exact e, by rw [upto_length]; exact hn, hlt g cap e, hc g cap e⟩
/-- one cell of a row of the call's own is written -/
theorem lay_owns_cell {w : World} {B g n cap : Nat} {t : TypeId} {C : List Value} (h : w.ownsRow B t 1 (.slice (some ⟨g, 0, none⟩) n cap) n C) (j : Nat) (u : Value) :
    (w.setCell ⟨g, j, none⟩ u).ownsRow B t 1 (.slice (some ⟨g, 0, none⟩) n cap) n (C.set j u) := by
  obtain ⟨h1, h2⟩ := h
  rcases h2 with ⟨h, _⟩ | ⟨g', cap', cur, hv, hb, hg, k1, k2, k3, k4⟩
  · cases h
  · cases hv
    refine ⟨by rw [List.length_set]; exact h1, .inr ⟨g, cap, cur.setIfInBounds j u, rfl, hb, ?_, k1, k2, by simpa using k3, ?_⟩⟩
    · rw [setCell_eq_setRow w g j cur t (0, 0) u hg]
      exact setRow_heap w g cur _ t (0, 0) hg
    · rw [Array.toList_setIfInBounds, List.take_set, k4]
theorem lay_owns_at {w : World} {B g n cap : Nat} {t : TypeId} {C : List Value} (h : w.ownsRow B t 1 (.slice (some ⟨g, 0, none⟩) n cap) n C) {j : Nat} (hj : j < n) : (∃ u, w.cell? ⟨g, j, none⟩ = some u) ∧ w.frozen? ⟨g, j, none⟩ = false := by
  have hl : C.length = n := by have := h.1; omega
  constructor
  · have := h.cells (g := g) rfl j C[j] (List.getElem?_eq_getElem _)
    rw [Addr.add_lit, Nat.zero_add] at this
    exact ⟨_, this⟩
  · rcases h.2 with ⟨h, _⟩ | ⟨g', cap', cur, hv, hb, hg, _⟩
    · cases h
    · cases hv
      simp [World.frozen?, hg]
/-- the first j cells are written -/
def Filled (C : List Value) (P : Int) (j : Nat) : Prop := ∀ i : Nat, i < j → C[i]? = some (.int .i64 (P + (i : Int)))
theorem filled_next {C : List Value} {P V : Int} {j : Nat} (h : Filled C P j) (hj : j < C.length) (hV : V = P + (j : Int)) : Filled (C.set j (.int .i64 V)) P (j + 1) := by
  intro i hi
  subst hV
  by_cases e : i = j
  · subst e; rw [List.getElem?_set_self hj]
  · rw [List.getElem?_set_ne (fun h => e h.symm)]; exact h i (by omega)
theorem filled_all {C : List Value} {P : Int} {n : Nat} (h : Filled C P n) (hl : C.length = n) : C = ints (upto P n) := by
  apply List.ext_getElem?
  intro i
  by_cases hi : i < n
  · rw [h i hi]
    unfold ints upto
    rw [List.getElem?_map, List.getElem?_map, List.getElem?_range hi]
    rfl
  · rw [List.getElem?_eq_none (by omega), List.getElem?_eq_none (by rw [ints_length, upto_length]; omega)]
set_option maxHeartbeats 1000000 in
theorem slots_none (z s b q d h k : Int) (w : World) (hno : ¬ errN z s b q d h = 0 ∨ ¬ (k = 0 ∨ k = 1)) :
    Calls Try.prog 13 #[confV z s b q d h, .int .i64 k] w (SlotPost w []) := by
  have hA := (Below.refl w.heap.size w).alloc (Nat.le_refl _) (confRow z s b q d h)
  have hx0 := heap_alloc_new w (confRow z s b q d h)
  have ho := layOf_any z s b q d h
  obtain ⟨x1, x2, x3, x4, hx, -⟩ := layE_agg z s b q d h
  unfold ofV at ho
  rw [hx] at ho
  clear hx
  unfold confV at *
  generalize errN z s b q d h = E at *
  have HO := Lib.hid ho
  clear ho
  by_cases hE : E = 0
  · have hk := hno.resolve_left (fun h => h hE)
    have hk0 : (k != 0) = true := by simp; omega
    have hk1 : (k != 1) = true := by simp; omega
    clear hno hk
    subst hE
    go_enter Try.func13, Try.ntmps13
    generalize hw0 : w.alloc (confRow z s b q d h) = w0 at *
    go_wp2_with (first
      | (go_at_call 7; ((with_reducible refine (HO.out _).mono ?_); rintro e w1 ⟨rfl, hb1⟩; have b1 := hA.trans (hb1.mono hA.size); have b2 := b1.alloc b1.size (layRow x1 x2 x3 x4)))
      | ((with_reducible refine Plan.load_lit 23 (.tmp 2) w.heap.size ?_ hx0 Try.underlying23 ?_ ?_ ?_); (· rfl); (· rfl); (· exact conf_info); simp only [Act.put, List.setIfInBounds_toArray, List.set_cons_zero, List.set_cons_succ]))
    go_ret
    exact ⟨_, rfl, .inl ⟨rfl, rfl⟩, b2⟩
  · have hE2 : (E != 0) = true := by simpa using hE
    clear hno hE
    go_enter Try.func13, Try.ntmps13
    generalize hw0 : w.alloc (confRow z s b q d h) = w0 at *
    go_wp2_with (first
      | (go_at_call 7; ((with_reducible refine (HO.out _).mono ?_); rintro e w1 ⟨rfl, hb1⟩; have b1 := hA.trans (hb1.mono hA.size); have b2 := b1.alloc b1.size (layRow x1 x2 x3 x4)))
      | ((with_reducible refine Plan.load_lit 23 (.tmp 2) w.heap.size ?_ hx0 Try.underlying23 ?_ ?_ ?_); (· rfl); (· rfl); (· exact conf_info); simp only [Act.put, List.setIfInBounds_toArray, List.set_cons_zero, List.set_cons_succ]))
    go_ret
    exact ⟨_, rfl, .inl ⟨rfl, rfl⟩, b2⟩
set_option maxHeartbeats 1000000 in
set_option maxRecDepth 20000 in
theorem slots_some (z s b q d h k : Int) (n : Nat) (P : Int) (w : World) (hE : errN z s b q d h = 0) (hk : k = 0 ∨ k = 1) (hn : slotN s b = (n : Int)) (hP : k * (n : Int) = P) (n1 : 1 ≤ n) (n2 : n ≤ 64) :
    Calls Try.prog 13 #[confV z s b q d h, .int .i64 k] w (SlotPost w (upto P n)) := by
  have hA := (Below.refl w.heap.size w).alloc (Nat.le_refl _) (confRow z s b q d h)
  have hx0 := heap_alloc_new w (confRow z s b q d h)
  have ho := layOf_any z s b q d h
  obtain ⟨x1, x2, x3, x4, hx, he⟩ := layE_agg z s b q d h
  obtain ⟨e1, -⟩ := he hE
  unfold ofV at ho
  rw [hx, hE, e1, hn] at ho
  clear hx hE e1 hn he
  unfold confV at *
  obtain ⟨i1, hi1, hy0, hy1, hy2⟩ := info_parts int_info
  have HO := Lib.hid ho
  clear ho
  have p0 : 0 ≤ P := by rcases hk with rfl | rfl <;> omega
  have p1 : P ≤ 64 := by rcases hk with rfl | rfl <;> omega
  have hW : wrap64 (k * (n : Int)) = P := by rw [hP]; unfold wrap64; omega
  have hg : (k != 0) = false ∨ (k != 0) = true ∧ (k != 1) = false := by rcases hk with rfl | rfl <;> simp
  clear hP hk
  have HW := Lib.hid hW
  clear hW
  rcases hg with g0 | ⟨g0, g1⟩
  all_goals
    go_enter Try.func13, Try.ntmps13
    generalize hw0 : w.alloc (confRow z s b q d h) = w0 at *
    go_wp2_with (first
      | (go_at_call 7; ((with_reducible refine (HO.out _).mono ?_); rintro e w1 ⟨rfl, hb1⟩; have b1 := hA.trans (hb1.mono hA.size)))
      | ((with_reducible refine Plan.load_lit 23 (.tmp 2) w.heap.size ?_ hx0 Try.underlying23 ?_ ?_ ?_); (· rfl); (· rfl); (· exact conf_info); simp only [Act.put, List.setIfInBounds_toArray, List.set_cons_zero, List.set_cons_succ])
      | (at_make; refine wpList_make_full _ rfl _ _ 32 rfl (w1.heap.size + 1) 3 i1 _ 1 Try.underlying32 hi1 hy0 hy1 .i64 .i64 (n : Int) (n : Int) n rfl rfl rfl rfl (by rw [hy2]; omega) (by unfold maxLen; omega) (by simp) ?_; intro w2 hown2 hgrow2; rw [World.size_alloc] at hown2; have hx2 := (hgrow2.block w1.heap.size (by simp) (by simp)).trans (heap_alloc_new w1 (layRow n x2 x3 x4)); obtain ⟨y2, d0, -⟩ := lay4 hx2; have b2 := (b1.alloc b1.size (layRow n x2 x3 x4)).grown hgrow2 (b1.alloc b1.size (layRow n x2 x3 x4)).size (fun k hk => by cases hk); clear hgrow2))
    have hHg : w1.heap.size < w1.heap.size + 1 := Nat.lt_succ_self _
    have hHw := b1.size
    generalize w1.heap.size + 1 = H at hown2 hHg ⊢
    generalize w1.heap.size = G at *
    clear d0
    go_loopw [29] (fun c wr => ∃ (j : Nat) (C : List Value), c = .int .i64 j ∧ j ≤ n ∧ wr.ownsRow H 3 1 (.slice (some ⟨H, 0, none⟩) n n) n C ∧ Filled C P j ∧ wr.heap[G]? = some (layRow n x2 x3 x4) ∧ Below w.heap.size w wr) (fun c _ => n - (intOf c).toNat)
    case atStart => exact ⟨0, _, rfl, by omega, hown2, fun i hi => absurd hi (Nat.not_lt_zero _), hx2, b2⟩
    case round =>
      obtain ⟨j, C, rfl, hj, hown, hfl, hx, hb⟩ := hrel
      by_cases hlt : j < n
      · have hjI : (j : Int) < (n : Int) := by omega
        obtain ⟨yx, d0, -⟩ := lay4 hx
        obtain ⟨⟨u, c1⟩, f1⟩ := lay_owns_at hown hlt
        have hCl : C.length = n := by have := hown.1; omega
        have O9 := lay_owns_cell hown j (.int .i64 (P + (j : Int)))
        have hnx := filled_next (V := P + (j : Int)) hfl (by omega) rfl
        have b9 := hb.setCell (show w.heap.size ≤ (⟨H, j, none⟩ : Addr).block by show w.heap.size ≤ H; omega) (.int .i64 (P + (j : Int)))
        have hx9 := (Below.heap_setCell wr ⟨H, j, none⟩ (.int .i64 (P + (j : Int))) G (by show G ≠ H; omega)).trans hx
        have hW := HW.out
        go_wp2_with fail
        go_roundw
        case rel => exact ⟨j + 1, _, by go_num, by omega, O9, hnx, hx9, b9⟩
        case measure => simp [intOf]; omega
      · obtain rfl : j = n := by omega
        have hCl : C.length = j := by have := hown.1; omega
        obtain rfl := filled_all hfl hCl
        have hL := listAt_owned hown n1
        go_wp2_with fail
        go_ret
        exact ⟨_, rfl, hL, hb⟩
end Go.Proofs.Yteifpflnadjjkaa
