/- The walks of the maker's record and sector, for any dice. -/
import Derived.Test.YtjihkcjoaefppaaMakeNext
import Derived.Test.YtjihkcjoaefppaaMakeValue
import Derived.Test.YtjihkcjoaefppaaRecRow
namespace Go.Proofs.Ytjihkcjoaefppaa
open Go.RowKit Plan

/-- the kind and the payload of the record that is made -/
def madeT (zs : List Int) (k : Nat) : Bool := nxt zs (stp zs (stp zs k)) 4 == 3
def madeK (zs : List Int) (k : Nat) : Int := if madeT zs k = true then 2 else 1
def madeP (zs : List Int) (k : Nat) : ByteArray := if madeT zs k = true then ⟨#[]⟩ else ⟨(valueL (nxt zs (stp zs k) 200).toNat).toArray⟩
def stp3 (zs : List Int) (k : Nat) : Nat := stp zs (stp zs (stp zs k))
def MadePost (w : World) (base g : Nat) (zs : List Int) (k : Nat) (blocks version : Int) (e : Ending) (w' : World) : Prop :=
  e = .returned (.agg #[.int .i64 (madeK zs k), .int .i64 (nxt zs k blocks), .int .i64 version, .int .i64 0, .string (madeP zs k)]) ∧ Dice w' base g zs (stp3 zs k) ∧ w.grownBy w' (some g)
/-- a record that is made can be encoded -/
theorem made_ok (zs : List Int) (k : Nat) (blocks version : Int) (h1 : 1 ≤ blocks) (h2 : blocks ≤ 4294967296) (h3 : 0 ≤ version) (h4 : version ≤ 1099511627776) : RecMath.checkE (mk (madeK zs k) (nxt zs k blocks) version 0 (madeP zs k)) = 0 := by
  have hr := nxt_range zs k blocks h1
  rw [check_eq]
  unfold madeK madeP
  by_cases h : madeT zs k = true
  · rw [if_pos h, if_pos h]
    have hs : (⟨#[]⟩ : ByteArray).size = 0 := rfl
    rw [hs, if_neg (by omega), if_neg (by omega), if_neg (by omega)]
  · rw [if_neg h, if_neg h, size_bytes, value_length, if_neg (by omega), if_neg (by omega), if_neg (by omega)]
theorem grownBy_below {B : Nat} {a b c : World} {r : Option Nat} (h : a.grownBy b r) (h2 : Below B b c) (hB : a.heap.size ≤ B) : a.grownBy c r :=
  ⟨h2.os.trans h.os, h2.tape.trans h.tape, h2.output.trans h.output, Nat.le_trans h.size h2.size, fun k hk hr => (h2.block k (by omega)).trans (h.block k hk hr)⟩
theorem grownBy_refl (a : World) (r : Option Nat) : a.grownBy a r := ⟨rfl, rfl, rfl, Nat.le_refl _, fun _ _ _ => rfl⟩
theorem grownBy_more {a b c : World} {r : Option Nat} (h : a.grownBy b r) (h2 : b.grownBy c r) : a.grownBy c r := grownBy_trans h h2
theorem row_grown {a b : World} {g x : Nat} {o : Obj} (h : a.grownBy b (some g)) (hx : a.heap[x]? = some o) (hne : x ≠ g) : b.heap[x]? = some o :=
  (h.block x (Array.getElem?_eq_some_iff.1 hx).1 (fun e => hne (Option.some.inj e))).trans hx
theorem dice_alloc {w : World} {base g : Nat} {zs : List Int} {k : Nat} (h : Dice w base g zs k) (o : Obj) : Dice (w.alloc o) base g zs k := dice_on h ((Below.refl _ _).alloc (Nat.le_refl _) o) (Nat.le_refl _)
theorem grownBy_setRow (w : World) (x : Nat) (cs : Array Value) : w.grownBy (w.setRow x cs) (some x) :=
  ⟨rfl, rfl, rfl, Nat.le_of_eq (by simp [World.setRow]), fun i _ hne => setRow_other w x i cs (fun e => hne (by rw [e]))⟩
theorem grownBy_setCell (w : World) (p : Addr) (u : Value) : w.grownBy (w.setCell p u) (some p.block) :=
  ⟨rfl, rfl, rfl, Nat.le_of_eq (by simp [World.setCell]), fun i _ hne => Below.heap_setCell w p u i (fun e => hne (by rw [e]))⟩
theorem grownBy_row {a b : World} {r : Option Nat} (h : a.grownBy b r) {x : Nat} (hx : a.heap.size ≤ x) (cs : Array Value) : a.grownBy (b.setRow x cs) r :=
  ⟨h.os, h.tape, h.output, Nat.le_trans h.size (Nat.le_of_eq (by simp [World.setRow])), fun i hi hr => (setRow_other b x i cs (by omega)).trans (h.block i hi hr)⟩
theorem grownBy_cell {a b : World} {r : Option Nat} (h : a.grownBy b r) {p : Addr} (hx : a.heap.size ≤ p.block) (u : Value) : a.grownBy (b.setCell p u) r :=
  ⟨h.os, h.tape, h.output, Nat.le_trans h.size (Nat.le_of_eq (by simp [World.setCell])), fun i hi hr => (Below.heap_setCell b p u i (by omega)).trans (h.block i hi hr)⟩
theorem row_free {w : World} {x : Nat} {cs : Array Value} {t : TypeId} (h : w.heap[x]? = some (.cells cs t (0, 0))) (o : Nat) : w.frozen? ⟨x, o, none⟩ = false := by simp [World.frozen?, h]
set_option maxHeartbeats 1000000 in
theorem made_any (w : World) (base g : Nat) (zs : List Int) (k : Nat) (blocks version : Int) (hd : Dice w base g zs k) (hl : zs.length ≤ 100000) (h1 : 1 ≤ blocks) (h2 : blocks ≤ 4611686018427387904) :
    Calls Try.prog 15 #[.pointer (some ⟨g, 0, none⟩), .int .i64 blocks, .int .i64 version] w (MadePost w base g zs k blocks version) := by
  have hg := dice_lt hd
  have hn1 : ∀ W, Dice W base g zs k → Calls Try.prog 16 #[.pointer (some ⟨g, 0, none⟩), .int .i64 blocks] W (NextPost W base g zs k blocks) := fun W h => next_any W base g zs k blocks h hl h1 h2
  have hn2 : ∀ W, Dice W base g zs (stp zs k) → Calls Try.prog 16 #[.pointer (some ⟨g, 0, none⟩), .int .i64 200] W (NextPost W base g zs (stp zs k) 200) := fun W h => next_any W base g zs _ 200 h hl (by decide) (by decide)
  have hn3 : ∀ W, Dice W base g zs (stp zs (stp zs k)) → Calls Try.prog 16 #[.pointer (some ⟨g, 0, none⟩), .int .i64 4] W (NextPost W base g zs (stp zs (stp zs k)) 4) := fun W h => next_any W base g zs _ 4 h hl (by decide) (by decide)
  have hv : ∀ W, Calls Try.prog 27 #[.int .i64 (nxt zs (stp zs k) 200)] W fun e w' => e = .returned (.string ⟨(valueL (nxt zs (stp zs k) 200).toNat).toArray⟩) ∧ Below W.heap.size W w' := fun W => by
    have hr := nxt_range zs (stp zs k) 200 (by decide)
    have h := value_any (nxt zs (stp zs k) 200).toNat (by omega) W
    rwa [Int.toNat_of_nonneg hr.1] at h
  have hT : (nxt zs (stp zs (stp zs k)) 4 == 3) = madeT zs k := rfl
  have hK : madeK zs k = if madeT zs k = true then 2 else 1 := rfl
  have hP : madeP zs k = if madeT zs k = true then ⟨#[]⟩ else ⟨(valueL (nxt zs (stp zs k) 200).toNat).toArray⟩ := rfl
  have N1 := Lib.hid hn1
  have N2 := Lib.hid hn2
  have N3 := Lib.hid hn3
  have V := Lib.hid hv
  have D := Lib.hid (dice_alloc hd (.cells #[.int .i64 0, .int .i64 0, .int .i64 0, .int .i64 0, .string ⟨#[]⟩] 24))
  clear hn1 hn2 hn3 hv
  have HK := Lib.hid hK
  have HP := Lib.hid hP
  clear hK hP
  cases hB : madeT zs k
  · have HB := Lib.hid hB
    rw [hB] at hT
    clear hB
    go_enter Try.func15, Try.ntmps15
    go_wp2_with (first
      | (go_at_call 16; ((with_reducible refine (N1.out _ D.out).mono ?_); rintro e w1 ⟨rfl, hd1, hg1, hs1⟩; have r1 := row_grown hg1 (heap_alloc_new w _) (by omega); have t1 : w1.heap.size = w.heap.size + 1 := hs1.trans (World.size_alloc _ _)))
      | (go_at_call 16; ((with_reducible refine (N2.out _ hd1).mono ?_); rintro e w2 ⟨rfl, hd2, hg2, hs2⟩; have r2 := row_grown hg2 r1 (by omega)))
      | (go_at_call 27; ((with_reducible refine (V.out _).mono ?_); rintro e w3 ⟨rfl, hb3⟩; have hd3 := dice_on hd2 hb3 (Nat.le_refl _); have hz := dice_lt hd3; have t3 := hb3.size; have r3 := row_al (heap_old hb3 (Array.getElem?_eq_some_iff.1 r2).1 r2)))
      | (go_at_call 16; ((with_reducible refine (N3.out _ (dice_alloc hd3 _)).mono ?_); rintro e w4 ⟨rfl, hd4, hg4, hs4⟩; have r4 := row_grown hg4 (r3 _) (by omega); have rr := row_grown hg4 (heap_alloc_new w3 _) (by omega)))
      | ((with_reducible refine Plan.load_lit 24 (.tmp 7) w3.heap.size ?_ rr Try.underlying24 ?_ ?_ ?_); (· rfl); (· rfl); (· exact rec_info); simp only [Act.put, List.setIfInBounds_toArray, List.set_cons_zero, List.set_cons_succ])
      | ((with_reducible refine Plan.store_lit 24 (.tmp 6) _ w.heap.size ?_ r4 ?_ ?_ ?_ ?_ ?_ ?_); rotate_left; (· rfl); (· rfl); (· exact rec_info); (· rfl); (· simp [Value.oneCell']); simp only [Act.put]))
    have G : w.grownBy w4 (some g) := grownBy_trans (grownBy_below (grownBy_trans (grownBy_trans (World.grownBy_alloc w _ _) hg1) hg2) hb3 (by have := hs1; have := hs2; simp at *; omega)) (grownBy_trans (World.grownBy_alloc w3 _ _) hg4)
    refine bodyPost_ret (results_cell_row rfl _ _ _ _ _ _ _ rfl (setRow_heap _ _ _ _ _ _ r4) Try.underlying24 rfl rec_info) rfl ⟨?_, dice_far hd4 (grownBy_setRow w4 _ _) hg, grownBy_row G (Nat.le_refl _) _⟩
    rw [HK.out, HP.out, HB.out]
    rfl
  · have HB := Lib.hid hB
    rw [hB] at hT
    clear hB
    go_enter Try.func15, Try.ntmps15
    go_wp2_with (first
      | (go_at_call 16; ((with_reducible refine (N1.out _ D.out).mono ?_); rintro e w1 ⟨rfl, hd1, hg1, hs1⟩; have r1 := row_grown hg1 (heap_alloc_new w _) (by omega); have t1 : w1.heap.size = w.heap.size + 1 := hs1.trans (World.size_alloc _ _)))
      | (go_at_call 16; ((with_reducible refine (N2.out _ hd1).mono ?_); rintro e w2 ⟨rfl, hd2, hg2, hs2⟩; have r2 := row_grown hg2 r1 (by omega)))
      | (go_at_call 27; ((with_reducible refine (V.out _).mono ?_); rintro e w3 ⟨rfl, hb3⟩; have hd3 := dice_on hd2 hb3 (Nat.le_refl _); have hz := dice_lt hd3; have t3 := hb3.size; have r3 := row_al (heap_old hb3 (Array.getElem?_eq_some_iff.1 r2).1 r2)))
      | (go_at_call 16; ((with_reducible refine (N3.out _ (dice_alloc hd3 _)).mono ?_); rintro e w4 ⟨rfl, hd4, hg4, hs4⟩; have r4 := row_grown hg4 (r3 _) (by omega); have rr := row_grown hg4 (heap_alloc_new w3 _) (by omega); obtain ⟨yy, c0, c1, c2, c3, c4⟩ := row5 rr; have ff := row_free rr; have rr2 := setCell_row (setCell_row rr 0 (.int .i64 2)) 4 (.string ⟨#[]⟩); simp only [List.setIfInBounds_toArray, List.set_cons_succ, List.set_cons_zero] at rr2; have rq := (Below.heap_setCell (w4.setCell ⟨w3.heap.size, 0, none⟩ (.int .i64 2)) ⟨w3.heap.size, 4, none⟩ (.string ⟨#[]⟩) w.heap.size (show w.heap.size ≠ w3.heap.size by omega)).trans ((Below.heap_setCell w4 ⟨w3.heap.size, 0, none⟩ (.int .i64 2) w.heap.size (show w.heap.size ≠ w3.heap.size by omega)).trans r4)))
      | ((with_reducible refine Plan.load_lit 24 (.tmp 7) w3.heap.size ?_ rr2 Try.underlying24 ?_ ?_ ?_); (· rfl); (· rfl); (· exact rec_info); simp only [Act.put, List.setIfInBounds_toArray, List.set_cons_zero, List.set_cons_succ])
      | ((with_reducible refine Plan.store_lit 24 (.tmp 6) _ w.heap.size ?_ rq ?_ ?_ ?_ ?_ ?_ ?_); rotate_left; (· rfl); (· rfl); (· exact rec_info); (· rfl); (· simp [Value.oneCell']); simp only [Act.put]))
    have G : w.grownBy w4 (some g) := grownBy_trans (grownBy_below (grownBy_trans (grownBy_trans (World.grownBy_alloc w _ _) hg1) hg2) hb3 (by have := hs1; have := hs2; simp at *; omega)) (grownBy_trans (World.grownBy_alloc w3 _ _) hg4)
    have hR : w.heap.size ≤ w3.heap.size := by have := hs1; have := hs2; have := hb3.size; simp at *; omega
    have hR2 : g < w3.heap.size := by omega
    have e1 := dice_far (dice_far hd4 (grownBy_setCell w4 ⟨w3.heap.size, 0, none⟩ (.int .i64 2)) hR2) (grownBy_setCell (w4.setCell ⟨w3.heap.size, 0, none⟩ (.int .i64 2)) ⟨w3.heap.size, 4, none⟩ (.string ⟨#[]⟩)) hR2
    have e2 := grownBy_cell (grownBy_cell G (p := ⟨w3.heap.size, 0, none⟩) hR (.int .i64 2)) (p := ⟨w3.heap.size, 4, none⟩) hR (.string ⟨#[]⟩)
    refine bodyPost_ret (results_cell_row rfl _ _ _ _ _ _ _ rfl (setRow_heap _ _ _ _ _ _ rq) Try.underlying24 rfl rec_info) rfl ⟨?_, dice_far e1 (grownBy_setRow _ _ _) hg, grownBy_row e2 (Nat.le_refl _) _⟩
    rw [HK.out, HP.out, HB.out]
    rfl
theorem sector_made (k b v m : Int) (p : ByteArray) (w : World) :
    Calls Try.prog 14 #[.agg #[.int .i64 k, .int .i64 b, .int .i64 v, .int .i64 m, .string p]] w fun e w' => e = .returned (.string ⟨(RecMath.encL (mk k b v m p)).toArray⟩) ∧ Below w.heap.size w w' := by
  have h := refEncode_any k b v m p
  generalize (⟨(RecMath.encL (mk k b v m p)).toArray⟩ : ByteArray) = S at h ⊢
  generalize RecMath.checkE (mk k b v m p) = E at h
  have H := Lib.hid h
  clear h
  go_enter Try.func14, Try.ntmps14
  go_wp2_with (go_at_call 26; ((with_reducible refine (H.out _).mono ?_); rintro e w1 ⟨rfl, hb1⟩))
  go_ret
  exact ⟨rfl, ((Below.refl _ _).alloc (Nat.le_refl _) _).trans (hb1.mono (by simp))⟩
end Go.Proofs.Ytjihkcjoaefppaa
