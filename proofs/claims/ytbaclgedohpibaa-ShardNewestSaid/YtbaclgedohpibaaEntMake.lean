
/- The walk of the law's entry: an entry that is made of numbers, for any dice. -/
import Derived.Test.YtbaclgedohpibaaMakeNext
import Derived.Test.YtbaclgedohpibaaEntSame
namespace Go.Proofs.Ytbaclgedohpibaa.Ents
open Go.RowKit Plan EntMath
/-- the entry that is made -/
def mkK (zs : List Int) (k : Nat) : Int := if nxt zs (stp zs (stp zs (stp zs (stp zs (stp zs k))))) 3 = 2 then 2 else 1
def mkE (zs : List Int) (k : Nat) : Ent := ⟨nxt zs k 5, mkK zs k, 1 + nxt zs (stp zs k) 12, nxt zs (stp zs (stp zs k)) 3, nxt zs (stp zs (stp zs (stp zs k))) 4, nxt zs (stp zs (stp zs (stp zs (stp zs k)))) 4⟩
def stp6 (zs : List Int) (k : Nat) : Nat := stp zs (stp zs (stp zs (stp zs (stp zs (stp zs k)))))
theorem mk_ok (zs : List Int) (k : Nat) : okE (mkE zs k) = true ∧ 0 ≤ (mkE zs k).block ∧ (mkE zs k).block ≤ 4 ∧ (mkE zs k).version ≤ 12 ∧ (mkE zs k).move ≤ 2 := by
  have h1 := nxt_range zs k 5 (by decide)
  have h2 := nxt_range zs (stp zs k) 12 (by decide)
  have h3 := nxt_range zs (stp zs (stp zs k)) 3 (by decide)
  have h4 := nxt_range zs (stp zs (stp zs (stp zs k))) 4 (by decide)
  have h5 := nxt_range zs (stp zs (stp zs (stp zs (stp zs k)))) 4 (by decide)
  have hk : mkK zs k = 1 ∨ mkK zs k = 2 := by
    unfold mkK
    split
    · exact .inr rfl
    · exact .inl rfl
  refine ⟨ok_iff.2 ?_, ?_⟩
  · unfold mkE
    simp only
    refine ⟨hk, ?_⟩
    omega
  · unfold mkE
    simp only
    omega
theorem ent_dice_alloc {w : World} {base g : Nat} {zs : List Int} {k : Nat} (h : Dice w base g zs k) (o : Obj) : Dice (w.alloc o) base g zs k := dice_on h ((Below.refl _ _).alloc (Nat.le_refl _) o) (Nat.le_refl _)
theorem ent_row_grown {a b : World} {g x : Nat} {o : Obj} (h : a.grownBy b (some g)) (hx : a.heap[x]? = some o) (hne : x ≠ g) : b.heap[x]? = some o :=
  (h.block x (Array.getElem?_eq_some_iff.1 hx).1 (fun e => hne (Option.some.inj e))).trans hx
theorem ent_grown_row {a b : World} {r : Option Nat} (h : a.grownBy b r) {x : Nat} (hx : a.heap.size ≤ x) (cs : Array Value) : a.grownBy (b.setRow x cs) r :=
  ⟨h.os, h.tape, h.output, Nat.le_trans h.size (Nat.le_of_eq (by simp [World.setRow])), fun i hi hr => (setRow_other b x i cs (by omega)).trans (h.block i hi hr)⟩
theorem ent_alloc {a b : World} {r : Option Nat} (h : a.grownBy b r) (o : Obj) : a.grownBy (b.alloc o) r :=
  ⟨h.os, h.tape, h.output, Nat.le_trans h.size (by simp), fun i hi hr => (Below.heap_alloc _ _ _ (Nat.lt_of_lt_of_le hi h.size)).trans (h.block i hi hr)⟩
def EntryPost (w : World) (base g : Nat) (zs : List Int) (k : Nat) (r : Ending) (w' : World) : Prop :=
  r = .returned (entV (mkE zs k)) ∧ Dice w' base g zs (stp6 zs k) ∧ w.grownBy w' (some g)
set_option maxHeartbeats 2000000 in
set_option maxRecDepth 20000 in
theorem lawEntry_any (w : World) (base g : Nat) (zs : List Int) (k : Nat) (hd : Dice w base g zs k) (hl : zs.length ≤ 100000) :
    Calls Try.prog 13 #[.pointer (some ⟨g, 0, none⟩)] w (EntryPost w base g zs k) := by
  have hg := dice_lt hd
  have hn0 : ∀ W, Dice W base g zs k → Calls Try.prog 15 #[.pointer (some ⟨g, 0, none⟩), .int .i64 5] W (NextPost W base g zs k 5) := fun W h => next_any W base g zs _ 5 h hl (by decide) (by decide)
  have hn1 : ∀ W, Dice W base g zs (stp zs k) → Calls Try.prog 15 #[.pointer (some ⟨g, 0, none⟩), .int .i64 12] W (NextPost W base g zs (stp zs k) 12) := fun W h => next_any W base g zs _ 12 h hl (by decide) (by decide)
  have hn2 : ∀ W, Dice W base g zs (stp zs (stp zs k)) → Calls Try.prog 15 #[.pointer (some ⟨g, 0, none⟩), .int .i64 3] W (NextPost W base g zs (stp zs (stp zs k)) 3) := fun W h => next_any W base g zs _ 3 h hl (by decide) (by decide)
  have hn3 : ∀ W, Dice W base g zs (stp zs (stp zs (stp zs k))) → Calls Try.prog 15 #[.pointer (some ⟨g, 0, none⟩), .int .i64 4] W (NextPost W base g zs (stp zs (stp zs (stp zs k))) 4) := fun W h => next_any W base g zs _ 4 h hl (by decide) (by decide)
  have hn4 : ∀ W, Dice W base g zs (stp zs (stp zs (stp zs (stp zs k)))) → Calls Try.prog 15 #[.pointer (some ⟨g, 0, none⟩), .int .i64 4] W (NextPost W base g zs (stp zs (stp zs (stp zs (stp zs k)))) 4) := fun W h => next_any W base g zs _ 4 h hl (by decide) (by decide)
  have hn5 : ∀ W, Dice W base g zs (stp zs (stp zs (stp zs (stp zs (stp zs k))))) → Calls Try.prog 15 #[.pointer (some ⟨g, 0, none⟩), .int .i64 3] W (NextPost W base g zs (stp zs (stp zs (stp zs (stp zs (stp zs k))))) 3) := fun W h => next_any W base g zs _ 3 h hl (by decide) (by decide)
  have r1 := nxt_range zs (stp zs k) 12 (by decide)
  unfold EntryPost mkE mkK entV stp6
  unfold NextPost at hn0 hn1 hn2 hn3 hn4 hn5
  generalize nxt zs k 5 = N0 at *
  generalize nxt zs (stp zs k) 12 = N1 at *
  generalize nxt zs (stp zs (stp zs k)) 3 = N2 at *
  generalize nxt zs (stp zs (stp zs (stp zs k))) 4 = N3 at *
  generalize nxt zs (stp zs (stp zs (stp zs (stp zs k)))) 4 = N4 at *
  generalize nxt zs (stp zs (stp zs (stp zs (stp zs (stp zs k))))) 3 = N5 at *
  have N0H := Lib.hid hn0
  have N1H := Lib.hid hn1
  have N2H := Lib.hid hn2
  have N3H := Lib.hid hn3
  have N4H := Lib.hid hn4
  have N5H := Lib.hid hn5
  clear hn0 hn1 hn2 hn3 hn4 hn5
  have hq0 := heap_alloc_new w (entRow 0 0 0 0 0 0)
  have G0 : w.grownBy (w.alloc (entRow 0 0 0 0 0 0)) (some g) := ent_alloc ⟨rfl, rfl, rfl, Nat.le_refl _, fun _ _ _ => rfl⟩ _
  have hd0 := ent_dice_alloc hd (entRow 0 0 0 0 0 0)
  have hz0 : (w.alloc (entRow 0 0 0 0 0 0)).heap.size = w.heap.size + 1 := World.size_alloc _ _
  have hgw : w.heap.size ≠ g := by omega
  have hgw1 : w.heap.size + 1 ≠ g := by omega
  obtain ⟨r10, r11⟩ := r1
  clear hd
  have hT : N5 = 2 ∨ ¬ N5 = 2 := Classical.em _
  rcases hT with hT | hT
  · subst hT
    go_enter Try.func13, Try.ntmps13
    generalize hw0 : w.alloc (entRow 0 0 0 0 0 0) = w0 at *
    go_wp2_with (first
      | (go_at_call 15; ((with_reducible refine (N0H.out _ hd0).mono ?_); rintro e w1 ⟨rfl, hd1, hg1, hs1⟩; have hq1 := ent_row_grown hg1 hq0 hgw; have G1 := grownBy_trans G0 hg1))
      | (go_at_call 15; ((with_reducible refine (N1H.out _ hd1).mono ?_); rintro e w2 ⟨rfl, hd2, hg2, hs2⟩; have hq2 := ent_row_grown hg2 hq1 hgw; have G2 := grownBy_trans G1 hg2))
      | (go_at_call 15; ((with_reducible refine (N2H.out _ hd2).mono ?_); rintro e w3 ⟨rfl, hd3, hg3, hs3⟩; have hq3 := ent_row_grown hg3 hq2 hgw; have G3 := grownBy_trans G2 hg3))
      | (go_at_call 15; ((with_reducible refine (N3H.out _ hd3).mono ?_); rintro e w4 ⟨rfl, hd4, hg4, hs4⟩; have hq4 := ent_row_grown hg4 hq3 hgw; have G4 := grownBy_trans G3 hg4))
      | (go_at_call 15; ((with_reducible refine (N4H.out _ hd4).mono ?_); rintro e w5 ⟨rfl, hd5, hg5, hs5⟩; have hq5 := ent_row_grown hg5 hq4 hgw; have G5 := grownBy_trans G4 hg5))
      | (go_at_call 15; ((with_reducible refine (N5H.out _ (ent_dice_alloc hd5 (entRow N0 1 (1 + N1) N2 N3 N4))).mono ?_); rintro e w6 ⟨rfl, hd6, hg6, hs6⟩; have hq6 := ent_row_grown hg6 (e_al hq5 (entRow N0 1 (1 + N1) N2 N3 N4)) hgw; have G6 := grownBy_trans (ent_alloc G5 (entRow N0 1 (1 + N1) N2 N3 N4)) hg6; have hX : w5.heap.size = w.heap.size + 1 := (by omega); have hrow6 := ent_row_grown hg6 (show (w5.alloc (entRow N0 1 (1 + N1) N2 N3 N4)).heap[w.heap.size + 1]? = some (entRow N0 1 (1 + N1) N2 N3 N4) from (by have h9 := heap_alloc_new w5 (entRow N0 1 (1 + N1) N2 N3 N4); rw [hX] at h9; exact h9)) hgw1; obtain ⟨c0, c1, c2, c3, c4, c5⟩ := entry_row hrow6; have f1 : w6.frozen? ⟨w.heap.size + 1, 1, none⟩ = false := (by simp [World.frozen?, hrow6]); have hrow7 := setRow_heap w6 (w.heap.size + 1) _ #[.int .i64 N0, .int .i64 2, .int .i64 (1 + N1), .int .i64 N2, .int .i64 N3, .int .i64 N4] _ _ hrow6; have e7 := setCell_eq_setRow w6 (w.heap.size + 1) 1 _ _ _ (.int .i64 2) hrow6; have hq7 := (setRow_other w6 (w.heap.size + 1) w.heap.size #[.int .i64 N0, .int .i64 2, .int .i64 (1 + N1), .int .i64 N2, .int .i64 N3, .int .i64 N4] (by omega)).trans hq6; rw [show (#[(.int .i64 N0 : Value), .int .i64 1, .int .i64 (1 + N1), .int .i64 N2, .int .i64 N3, .int .i64 N4] : Array Value).setIfInBounds 1 (.int .i64 2) = #[.int .i64 N0, .int .i64 2, .int .i64 (1 + N1), .int .i64 N2, .int .i64 N3, .int .i64 N4] from rfl] at e7))
      | ((with_reducible refine Plan.load_lit 26 (.tmp 3) (w.heap.size + 1) ?_ hrow7 Try.underlying26 ?_ ?_ ?_); (· rfl); (· rfl); (· exact entry_info); simp only [Act.put, List.setIfInBounds_toArray, List.set_cons_zero, List.set_cons_succ])
      | ((with_reducible refine Plan.store_lit 26 (.tmp 2) _ w.heap.size ?_ hq7 ?_ ?_ ?_ ?_ ?_ ?_); rotate_left; (· rfl); (· rfl); (· exact entry_info); (· rfl); (· simp [Value.oneCell']); simp only [Act.put]))
    have hd7 := dice_far hd6 (sm_setRow w6 (w.heap.size + 1) #[.int .i64 N0, .int .i64 2, .int .i64 (1 + N1), .int .i64 N2, .int .i64 N3, .int .i64 N4]) (by omega)
    have G7 := ent_grown_row G6 (show w.heap.size ≤ w.heap.size + 1 by omega) #[.int .i64 N0, .int .i64 2, .int .i64 (1 + N1), .int .i64 N2, .int .i64 N3, .int .i64 N4]
    exact bodyPost_ret (results_cell_row rfl _ _ _ _ _ _ _ rfl (setRow_heap _ _ _ #[.int .i64 N0, .int .i64 2, .int .i64 (1 + N1), .int .i64 N2, .int .i64 N3, .int .i64 N4] _ _ hq7) Try.underlying26 rfl entry_info) rfl ⟨by first | rfl | rw [if_pos rfl], dice_far hd7 (sm_setRow _ _ _) hg, ent_grown_row G7 (Nat.le_refl _) _⟩
  · have hTT : (N5 == 2) = false := by simpa using hT
    go_enter Try.func13, Try.ntmps13
    generalize hw0 : w.alloc (entRow 0 0 0 0 0 0) = w0 at *
    go_wp2_with (first
      | (go_at_call 15; ((with_reducible refine (N0H.out _ hd0).mono ?_); rintro e w1 ⟨rfl, hd1, hg1, hs1⟩; have hq1 := ent_row_grown hg1 hq0 hgw; have G1 := grownBy_trans G0 hg1))
      | (go_at_call 15; ((with_reducible refine (N1H.out _ hd1).mono ?_); rintro e w2 ⟨rfl, hd2, hg2, hs2⟩; have hq2 := ent_row_grown hg2 hq1 hgw; have G2 := grownBy_trans G1 hg2))
      | (go_at_call 15; ((with_reducible refine (N2H.out _ hd2).mono ?_); rintro e w3 ⟨rfl, hd3, hg3, hs3⟩; have hq3 := ent_row_grown hg3 hq2 hgw; have G3 := grownBy_trans G2 hg3))
      | (go_at_call 15; ((with_reducible refine (N3H.out _ hd3).mono ?_); rintro e w4 ⟨rfl, hd4, hg4, hs4⟩; have hq4 := ent_row_grown hg4 hq3 hgw; have G4 := grownBy_trans G3 hg4))
      | (go_at_call 15; ((with_reducible refine (N4H.out _ hd4).mono ?_); rintro e w5 ⟨rfl, hd5, hg5, hs5⟩; have hq5 := ent_row_grown hg5 hq4 hgw; have G5 := grownBy_trans G4 hg5))
      | (go_at_call 15; ((with_reducible refine (N5H.out _ (ent_dice_alloc hd5 (entRow N0 1 (1 + N1) N2 N3 N4))).mono ?_); rintro e w6 ⟨rfl, hd6, hg6, hs6⟩; have hq6 := ent_row_grown hg6 (e_al hq5 (entRow N0 1 (1 + N1) N2 N3 N4)) hgw; have G6 := grownBy_trans (ent_alloc G5 (entRow N0 1 (1 + N1) N2 N3 N4)) hg6; have hX : w5.heap.size = w.heap.size + 1 := (by omega); have hrow6 := ent_row_grown hg6 (show (w5.alloc (entRow N0 1 (1 + N1) N2 N3 N4)).heap[w.heap.size + 1]? = some (entRow N0 1 (1 + N1) N2 N3 N4) from (by have h9 := heap_alloc_new w5 (entRow N0 1 (1 + N1) N2 N3 N4); rw [hX] at h9; exact h9)) hgw1; obtain ⟨c0, c1, c2, c3, c4, c5⟩ := entry_row hrow6; have f1 : w6.frozen? ⟨w.heap.size + 1, 1, none⟩ = false := (by simp [World.frozen?, hrow6])))
      | ((with_reducible refine Plan.load_lit 26 (.tmp 3) (w.heap.size + 1) ?_ hrow6 Try.underlying26 ?_ ?_ ?_); (· rfl); (· rfl); (· exact entry_info); simp only [Act.put, List.setIfInBounds_toArray, List.set_cons_zero, List.set_cons_succ])
      | ((with_reducible refine Plan.store_lit 26 (.tmp 2) _ w.heap.size ?_ hq6 ?_ ?_ ?_ ?_ ?_ ?_); rotate_left; (· rfl); (· rfl); (· exact entry_info); (· rfl); (· simp [Value.oneCell']); simp only [Act.put]))
    exact bodyPost_ret (results_cell_row rfl _ _ _ _ _ _ _ rfl (setRow_heap _ _ _ _ _ _ hq6) Try.underlying26 rfl entry_info) rfl ⟨by first | rfl | rw [if_neg hT], dice_far hd6 (sm_setRow _ _ _) hg, ent_grown_row G6 (Nat.le_refl _) _⟩
end Go.Proofs.Ytbaclgedohpibaa.Ents
