
/- The walks of the document's Held and New of locks. -/
import Derived.Test.YtoclcefnecghfaaLckTake
import Derived.Test.YtoclcefnecghfaaEntDrop
import Derived.Test.YtoclcefnecghfaaCntPend
namespace Go.Proofs.Ytoclcefnecghfaa.Ents
open Go.RowKit Plan EntMath CntMath LckMath
theorem append_int {w : World} {ops : Array Oper} {rest : List Oper} {o : Oper} {a : Act} {Q : Exit → Act → World → Prop} (hgd : o.guard = none) (s x : Operand)
    (ho : o.op = .call { callee := .builtin .append, args := #[s, x], argTypes := #[22, 22] })
    (base : Nat) (v : Value) (m0 : Nat) (Z : List Int) (hs : a.eval s = v) (hown : w.ownsRow base 3 1 v m0 (intC Z)) (g : Nat) (z : Int) (hx : a.eval x = .slice (some ⟨g, 0, none⟩) 1 1) (hg : w.heap[g]? = some (.cells #[.int .i64 z] 3 (0, 0))) (hm : m0 ≤ 900000) (hbase : base ≤ w.heap.size)
    (h : ∀ g' c' w', w'.ownsRow base 3 1 (.slice (some ⟨g', 0, none⟩) (m0 + 1) c') (m0 + 1) (intC (Z ++ [z])) → w.grownBy w' v.ownBlock → (v.ownBlock = some g' ∨ g' = w.heap.size) → wpList Try.prog ops Q rest (a.put o.dst (.slice (some ⟨g', 0, none⟩) (m0 + 1) c')) w') : wpList Try.prog ops Q (o :: rest) a w := by
  obtain ⟨i1, hi1, hy0, hy1, hy2⟩ := info_parts int_info
  have hL : ∀ j u, (intC [z])[j]? = some u → w.cell? ((⟨g, 0, none⟩ : Addr).add j) = some u := fun j u hu => by
    rw [Addr.add_lit, Nat.zero_add]
    exact (cell_of_row w g j _ _ _ hg).trans (by rw [List.getElem?_toArray]; exact hu)
  refine wpList_append_lies w hgd s x 22 ho base 3 i1 _ 1 8 Try.underlying22 hi1 hy0 hy1 hy2 rfl (by decide) v m0 (intC Z) hs hown ⟨g, 0, none⟩ 1 1 (intC [z]) hx rfl hL (intC_flat _) (by decide) (by unfold maxLen; omega) (by omega) hbase _ rfl ?_
  intro g' c' w' h1 h2 h3 _
  rw [show intC Z ++ intC [z] = intC (Z ++ [z]) from by simp [intC]] at h1
  exact h g' c' w' h1 h2 h3
/-- what Held leaves -/
def HeldPost (w : World) (Z : List Int) (r : Ending) (w' : World) : Prop := ∃ a n c, r = .returned (.slice a n c) ∧ IList w' (fun b => w.heap.size ≤ b) a n c Z ∧ Below w.heap.size w w'
set_option maxHeartbeats 4000000 in
set_option maxRecDepth 20000 in
theorem refHeld_any (F : Nat → Prop) (O : List Int) (t : Int) (a : Option Addr) (n c : Nat) (w : World) (hl : IList w F a n c O) (hn : n ≤ 900000) :
    Calls Try.prog 20 #[lckV a n c, .int .i64 t] w (HeldPost w (heldL O t)) := by
  have hlen := hl.length
  have hA := (Below.refl w.heap.size w).alloc (Nat.le_refl _) (lckRow a n c)
  have hr0 := heap_alloc_new w (lckRow a n c)
  have H1 := Lib.hid (fun W (h : Below w.heap.size w W) i (hi : i < n) => (hl.same h).at' i hi)
  have hcp := hl.cap
  unfold maxLen at hcp
  clear hl
  by_cases ht : 0 ≤ t
  · have hres : heldL O t = heldTo O t n := by unfold heldL; rw [if_pos ht, hlen]
    rw [hres]
    have hend : ∀ W v m, W.ownsRow w.heap.size 3 1 v m (intC (heldTo O t n)) → ∃ a c, v = .slice a m c ∧ IList W (fun b => w.heap.size ≤ b) a m c (heldTo O t n) := fun W v m h => own_ilist h (fun b hb => (h.lt b hb).1)
    have HEND := Lib.hid hend
    have HNX := Lib.hid (fun i z (h : O[i]? = some z) => held_next (t := t) h)
    have HB := Lib.hid (held_len O t)
    have p1 : decide (0 ≤ t) = true := by simpa using ht
    clear hres hend
    go_enter Try.func20, Try.ntmps20
    have c0 := one_row hr0
    generalize hw0 : w.alloc (lckRow a n c) = w0 at *
    go_wp2_with fail
    go_loopw [5, 6] (fun v x wr => ∃ j : Nat, x = .int .i64 (j : Int) ∧ j ≤ n ∧ wr.ownsRow w.heap.size 3 1 v (heldTo O t j).length (intC (heldTo O t j)) ∧ wr.heap[w.heap.size]? = some (lckRow a n c) ∧ Below w.heap.size w wr ∧ ∀ b, v.ownBlock = some b → b ≠ w.heap.size) (fun _ x _ => n - (intOf x).toNat)
    case atStart => exact ⟨0, rfl, by omega, World.ownsRow_nil _ _ _ _, hr0, hA, fun b hb => absurd hb (by simp [Value.ownBlock])⟩
    case round =>
      clear c0 hr0 hA
      obtain ⟨j, rfl, hj, hv, hr, hb, hne⟩ := hrel
      have c0 := one_row hr
      by_cases hlt : j < n
      · obtain ⟨x, z, rfl, hz, hc⟩ := H1.out wr hb j hlt
        have hjI : (j : Int) < (n : Int) := by omega
        have N1 := HNX.out j z hz
        have hbj := HB.out j
        generalize heldTo O t j = Z at *
        clear hz
        by_cases hq : z = t
        · have q1 : (z == t) = true := by simpa using hq
          rw [if_pos hq] at N1
          have HN1 := Lib.hid N1
          subst hq
          have q2 := hb.alloc hb.size (.cells #[.int .i64 (j : Int)] 3 (0, 0))
          have hv1 := e_owns_on hv ((Below.refl _ _).alloc (Nat.le_refl _) (.cells #[.int .i64 (j : Int)] 3 (0, 0)))
          have hr1 := e_al hr (.cells #[.int .i64 (j : Int)] 3 (0, 0))
          clear N1
          go_wp2_with (first
            | (at_builtin; refine append_int rfl (.tmp 25) (.tmp 27) rfl w.heap.size _ _ Z rfl hv1 wr.heap.size (j : Int) rfl (heap_alloc_new wr (.cells #[.int .i64 (j : Int)] 3 (0, 0))) (by omega) q2.size ?_; intro g9 k9 w9 hown9 hgrow9 hat9))
          have b9 := q2.grown hgrow9 q2.size (fun z9 h9 => (hv.lt z9 h9).1)
          have r9 := (hgrow9.block w.heap.size (e_lt hr1) (fun h9 => hne _ h9.symm rfl)).trans hr1
          have hlr := e_lt hr1
          go_roundw
          case rel => exact ⟨j + 1, by go_num, by omega, by rw [HN1.out, List.length_append]; exact hown9, r9, b9, fun b hb9 => by
            have h8 : g9 = b := Option.some.inj (show some g9 = some b from hb9)
            subst h8
            rcases hat9 with h7 | h7
            · exact hne _ h7
            · omega⟩
          case measure => simp [intOf]; omega
        · have q1 : (z == t) = false := by simpa using hq
          rw [if_neg hq, List.append_nil] at N1
          have HN1 := Lib.hid N1
          clear N1
          go_wp2_with fail
          go_roundw
          case rel => exact ⟨j + 1, by go_num, by omega, by rw [HN1.out]; exact hv, hr, hb, hne⟩
          case measure => simp [intOf]; omega
      · obtain rfl : j = n := by omega
        obtain ⟨a9, c9, rfl, l9⟩ := HEND.out _ _ _ hv
        generalize (heldTo O t j).length = m9 at *
        go_wp2_with fail
        go_ret
        exact ⟨_, _, _, rfl, l9, hb⟩
  · have hres : heldL O t = [] := by unfold heldL; rw [if_neg ht]
    rw [hres]
    have p1 : decide (0 ≤ t) = false := by simpa using ht
    clear hres hlen H1
    go_enter Try.func20, Try.ntmps20
    have c0 := one_row hr0
    generalize hw0 : w.alloc (lckRow a n c) = w0 at *
    go_wp2_with fail
    go_loopw [5, 6] (fun v x wr => x = .int .i64 0 ∧ v = .slice none 0 0 ∧ wr.heap[w.heap.size]? = some (lckRow a n c) ∧ Below w.heap.size w wr) (fun _ _ _ => 0)
    case atStart => exact ⟨rfl, rfl, hr0, hA⟩
    case round =>
      clear c0 hr0 hA
      obtain ⟨rfl, rfl, hr, hb⟩ := hrel
      have c0 := one_row hr
      by_cases h0 : 0 < n
      · have q1 : decide ((0 : Int) < (n : Int)) = true := by simp; omega
        have q2 : decide (0 < n) = true := by simpa using h0
        go_wp2_with fail
        go_ret
        exact ⟨_, _, _, rfl, IList.nil _ _, hb⟩
      · have q1 : decide ((0 : Int) < (n : Int)) = false := by simp; omega
        have q2 : decide (0 < n) = false := by simpa using h0
        go_wp2_with fail
        go_ret
        exact ⟨_, _, _, rfl, IList.nil _ _, hb⟩
/-- what New leaves -/
def LNewPost (w : World) (O : List Int) (E : Int) (r : Ending) (w' : World) : Prop := ∃ a n c, r = .returned (.tuple #[lckV a n c, .int .i64 E]) ∧ IList w' (fun b => w.heap.size ≤ b) a n c O ∧ Below w.heap.size w w'
theorem all_is {Z : List Int} {n : Nat} {v : Int} (h : Z.length = n) (hi : ∀ i : Nat, i < n → Z[i]? = some v) : Z = List.replicate n v := by
  refine List.ext_getElem? fun i => ?_
  rcases Nat.lt_or_ge i n with h1 | h1
  · rw [hi i h1, List.getElem?_replicate, if_pos h1]
  · rw [List.getElem?_eq_none (by omega), List.getElem?_eq_none (by simp; omega)]
set_option maxHeartbeats 4000000 in
set_option maxRecDepth 20000 in
theorem refLNew_any (s : Int) (w : World) : Calls Try.prog 9 #[.int .i64 s] w (LNewPost w (newK s) (newKE s)) := by
  have hA := (Below.refl w.heap.size w).alloc (Nat.le_refl _) (lckRow none 0 0)
  have hr0 := heap_alloc_new w (lckRow none 0 0)
  by_cases hs : 1 ≤ s ∧ s ≤ 8
  · obtain ⟨n, rfl⟩ : ∃ n : Nat, s = (n : Int) := ⟨s.toNat, by omega⟩
    have h1 : newK (n : Int) = List.replicate n (-1) := by unfold newK; rw [if_pos hs, Int.toNat_natCast]
    have h2 : newKE (n : Int) = 0 := if_pos hs
    rw [h1, h2]
    have hmk := fun w => run_make_row' (P := Try.prog) 22 3 (.int .i64 0) 8 Try.underlying22 int_row rfl .i64 .i64 n (by omega) (by omega) w
    have hg1 : decide ((n : Int) < 1) = false := by simp; omega
    have hg2 : decide ((8 : Int) < (n : Int)) = false := by simp; omega
    have hg3 : ¬ (n : Int) < 1 := by omega
    have hg4 : ¬ (8 : Int) < (n : Int) := by omega
    have hg5 : decide (8 < n) = false := by simp; omega
    have hnm : n ≤ maxLen := by unfold maxLen; omega
    have hn1 : 1 ≤ n := by omega
    have hn2 : n ≤ 8 := by omega
    clear h1 h2 hs
    go_enter Try.func9, Try.ntmps9
    generalize hw0 : w.alloc (lckRow none 0 0) = w0 at *
    have hz0 : w.heap.size < w0.heap.size := e_lt hr0
    go_wp2_with fail
    rw [show (Obj.cells (madeCells #[.int .i64 0] n) 3) = intRow (List.replicate n 0) from zero_row n]
    have G1 := heap_first w0 (intRow (List.replicate n 0)) (lckRow (some ⟨w0.heap.size, 0, none⟩) n n)
    have G2 := heap_second w0 (intRow (List.replicate n 0)) (lckRow (some ⟨w0.heap.size, 0, none⟩) n n)
    have hr2 := e_al (e_al hr0 (intRow (List.replicate n 0))) (lckRow (some ⟨w0.heap.size, 0, none⟩) n n)
    have hb0 := hA.alloc hA.size (intRow (List.replicate n 0))
    have hb := hb0.alloc hb0.size (lckRow (some ⟨w0.heap.size, 0, none⟩) n n)
    have kX : w0.heap.size ≠ w0.heap.size + 1 := by omega
    have kX2 : w.heap.size < w0.heap.size + 1 := by omega
    clear hmk hw0 hA hr0 hb0
    generalize (w0.alloc (intRow (List.replicate n 0))).alloc (lckRow (some ⟨w0.heap.size, 0, none⟩) n n) = w3 at *
    generalize w0.heap.size + 1 = X at *
    generalize w0.heap.size = g at *
    go_loopw [5] (fun x wr => ∃ (j : Nat) (Z : List Int), x = .int .i64 (j : Int) ∧ j ≤ n ∧ Z.length = n ∧ RowKit.Hid (∀ i : Nat, i < j → Z[i]? = some (-1)) ∧ wr.heap[w.heap.size]? = some (lckRow none 0 0) ∧ wr.heap[X]? = some (lckRow (some ⟨g, 0, none⟩) n n) ∧ wr.heap[g]? = some (intRow Z) ∧ Below w.heap.size w wr) (fun x _ => n - (intOf x).toNat)
    case atStart => exact ⟨0, _, rfl, by omega, List.length_replicate .., Lib.hid (fun i h => absurd h (Nat.not_lt_zero _)), hr2, G2, G1, hb⟩
    case round =>
      clear hr2 G2 G1 hb
      obtain ⟨j, Z, rfl, hj, hZ, hall, hr, hX, hg, hb⟩ := hrel
      by_cases hlt : j < n
      · have hjI : (j : Int) < (n : Int) := by omega
        obtain ⟨y, hy⟩ : ∃ y, Z[j]? = some y := ⟨_, List.getElem?_eq_getElem (by omega)⟩
        have hgc := row_cell hg hy
        have c0 := one_row hX
        have HN := Lib.hid (show ∀ i : Nat, i < j + 1 → (Z.set j (-1))[i]? = some (-1) from fun i hi => by
          rw [List.getElem?_set]
          by_cases h : j = i
          · subst h
            rw [if_pos rfl, if_pos (by omega)]
          · rw [if_neg h]
            exact hall.out i (by omega))
        go_wp2_with (first
          | ((with_reducible refine store_int_c 3 (.tmp 24) (.const (.int .i64 (-1))) g j .i64 (-1) ?_ ?_ ⟨_, hgc⟩ (free_row_c hg) Put.int_info1 ?_); (· rfl); (· rfl); simp only [Act.put]; rw [setCell_eq_setRow _ _ _ _ _ _ _ hg]; rw [show (intC Z).toArray.setIfInBounds j (.int .i64 (-1)) = (intC (Z.set j (-1))).toArray from by rw [List.setIfInBounds_toArray, intC_set]]; have hX := (setRow_other wr g X (intC (Z.set j (-1))).toArray (Ne.symm kX)).trans hX; have hr := (setRow_other wr g w.heap.size (intC (Z.set j (-1))).toArray (by omega)).trans hr; have hg := setRow_heap wr g _ (intC (Z.set j (-1))).toArray _ _ hg; have hb := below_setRow hb (show w.heap.size ≤ g by omega) (intC (Z.set j (-1))).toArray; clear hgc c0; generalize wr.setRow g (intC (Z.set j (-1))).toArray = w8 at *))
        go_roundw
        case rel => exact ⟨j + 1, Z.set j (-1), by go_num, by omega, by rw [List.length_set, hZ], HN, hr, hX, hg, hb⟩
        case measure => simp [intOf]; omega
      · obtain rfl : j = n := by omega
        obtain rfl := all_is hZ hall.out
        have hrI : ¬ (j : Int) < (j : Int) := by omega
        go_wp2_with (first
          | ((with_reducible refine Plan.load_lit 24 (.tmp 4) (X) ?_ hX Try.underlying24 ?_ ?_ ?_); (· rfl); (· rfl); (· exact lck_info); simp only [Act.put, List.setIfInBounds_toArray, List.set_cons_zero, List.set_cons_succ])
          | ((with_reducible refine Plan.store_lit 24 (.tmp 2) _ (w.heap.size) ?_ hr ?_ ?_ ?_ ?_ ?_ ?_); rotate_left; (· rfl); (· rfl); (· exact lck_info); (· rfl); (· simp [Value.oneCell']); simp only [Act.put]))
        have g3 := (setRow_other wr w.heap.size g #[.slice (some ⟨g, 0, none⟩) j j] (by omega)).trans hg
        exact bodyPost_ret (Plan.results_cell_tmp (p := 2) (q := 3) rfl _ _ _ _ _ _ _ rfl (setRow_heap _ _ _ _ _ _ hr) Try.underlying24 rfl lck_info) rfl ⟨_, _, _, rfl, row_ilist g3 (by simp) hnm (by omega), below_setRow hb (Nat.le_refl _) _⟩
  · have h1 : newK s = [] := if_neg hs
    have h2 : newKE s = 1 := if_neg hs
    rw [h1, h2]
    clear h1 h2
    rcases (show s < 1 ∨ (¬ s < 1 ∧ 8 < s) by omega) with h | ⟨h, h3⟩
    · have d1 : decide (s < 1) = true := by simpa using h
      go_enter Try.func9, Try.ntmps9
      go_wp2_with (first
        | ((with_reducible refine Plan.store_lit 24 (.tmp 2) _ (w.heap.size) ?_ hr0 ?_ ?_ ?_ ?_ ?_ ?_); rotate_left; (· rfl); (· rfl); (· exact lck_info); (· rfl); (· simp [Value.oneCell']); simp only [Act.put]))
      exact bodyPost_ret (Plan.results_cell_tmp (p := 2) (q := 3) rfl _ _ _ _ _ _ _ rfl (setRow_heap _ _ _ _ _ _ hr0) Try.underlying24 rfl lck_info) rfl ⟨_, _, _, rfl, IList.nil _ _, below_setRow hA (Nat.le_refl _) _⟩
    · have d1 : decide (s < 1) = false := by simpa using h
      have d2 : decide (8 < s) = true := by simpa using h3
      go_enter Try.func9, Try.ntmps9
      go_wp2_with (first
        | ((with_reducible refine Plan.store_lit 24 (.tmp 2) _ (w.heap.size) ?_ hr0 ?_ ?_ ?_ ?_ ?_ ?_); rotate_left; (· rfl); (· rfl); (· exact lck_info); (· rfl); (· simp [Value.oneCell']); simp only [Act.put]))
      exact bodyPost_ret (Plan.results_cell_tmp (p := 2) (q := 3) rfl _ _ _ _ _ _ _ rfl (setRow_heap _ _ _ _ _ _ hr0) Try.underlying24 rfl lck_info) rfl ⟨_, _, _, rfl, IList.nil _ _, below_setRow hA (Nat.le_refl _) _⟩
end Go.Proofs.Ytoclcefnecghfaa.Ents
