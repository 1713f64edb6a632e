
/- The walk of the maker's Small: a small configuration, for any dice. -/
import Derived.Test.YteifpflnadjjkaaMakeNext
import Derived.Test.YteifpflnadjjkaaLayOf
import Derived.Test.YteifpflnadjjkaaBaseLast
namespace Go.Proofs.Yteifpflnadjjkaa
open Go.RowKit Plan LayMath

/-- the numbers of a small configuration -/
def smS (zs : List Int) (k : Nat) : Int := 3 + nxt zs k 4
def smB (zs : List Int) (k : Nat) : Int := 1 + nxt zs (stp zs k) 6
def smQ (zs : List Int) (k : Nat) : Int := 1 + nxt zs (stp zs (stp zs k)) 3
def smD (zs : List Int) (k : Nat) : Int := 1 + nxt zs (stp zs (stp zs (stp zs k))) 3
def smH (zs : List Int) (k : Nat) : Int := 1 + nxt zs (stp zs (stp zs (stp zs (stp zs k)))) 3
def smK5 (zs : List Int) (k : Nat) : Nat := stp zs (stp zs (stp zs (stp zs (stp zs k))))
def smT (zs : List Int) (k : Nat) : Int := nxt zs (smK5 zs k) 3
def smZ (zs : List Int) (k : Nat) : Int := 2 * slotN (smS zs k) (smB zs k) + 6 + smT zs k
def smK (zs : List Int) (k : Nat) : Nat := stp zs (smK5 zs k)
theorem small_range (zs : List Int) (k : Nat) : (3 ≤ smS zs k ∧ smS zs k ≤ 6) ∧ (1 ≤ smB zs k ∧ smB zs k ≤ 6) ∧ (1 ≤ smQ zs k ∧ smQ zs k ≤ 3) ∧ (1 ≤ smD zs k ∧ smD zs k ≤ 3) ∧ (1 ≤ smH zs k ∧ smH zs k ≤ 3) ∧ (0 ≤ smT zs k ∧ smT zs k ≤ 2) := by
  have h1 := nxt_range zs k 4 (by decide)
  have h2 := nxt_range zs (stp zs k) 6 (by decide)
  have h3 := nxt_range zs (stp zs (stp zs k)) 3 (by decide)
  have h4 := nxt_range zs (stp zs (stp zs (stp zs k))) 3 (by decide)
  have h5 := nxt_range zs (stp zs (stp zs (stp zs (stp zs k)))) 3 (by decide)
  have h6 := nxt_range zs (smK5 zs k) 3 (by decide)
  unfold smS smB smQ smD smH smT
  omega
theorem sm_dice_alloc {w : World} {base g : Nat} {zs : List Int} {k : Nat} (h : Dice w base g zs k) (o : Obj) : Dice (w.alloc o) base g zs k := dice_on h ((Below.refl _ _).alloc (Nat.le_refl _) o) (Nat.le_refl _)
theorem sm_row_grown {a b : World} {g x : Nat} {o : Obj} (h : a.grownBy b (some g)) (hx : a.heap[x]? = some o) (hne : x ≠ g) : b.heap[x]? = some o :=
  (h.block x (Array.getElem?_eq_some_iff.1 hx).1 (fun e => hne (Option.some.inj e))).trans hx
theorem sm_grown_row {a b : World} {r : Option Nat} (h : a.grownBy b r) {x : Nat} (hx : a.heap.size ≤ x) (cs : Array Value) : a.grownBy (b.setRow x cs) r :=
  ⟨h.os, h.tape, h.output, Nat.le_trans h.size (Nat.le_of_eq (by simp [World.setRow])), fun i hi hr => (setRow_other b x i cs (by omega)).trans (h.block i hi hr)⟩
theorem sm_grown_cell {a b : World} {r : Option Nat} (h : a.grownBy b r) {p : Addr} (hx : a.heap.size ≤ p.block) (u : Value) : a.grownBy (b.setCell p u) r :=
  ⟨h.os, h.tape, h.output, Nat.le_trans h.size (Nat.le_of_eq (by simp [World.setCell])), fun i hi hr => (Below.heap_setCell b p u i (by omega)).trans (h.block i hi hr)⟩
theorem sm_setRow (w : World) (x : Nat) (cs : Array Value) : w.grownBy (w.setRow x cs) (some x) :=
  ⟨rfl, rfl, rfl, Nat.le_of_eq (by simp [World.setRow]), fun i _ hne => setRow_other w x i cs (fun e => hne (by rw [e]))⟩
theorem sm_setCell (w : World) (p : Addr) (u : Value) : w.grownBy (w.setCell p u) (some p.block) :=
  ⟨rfl, rfl, rfl, Nat.le_of_eq (by simp [World.setCell]), fun i _ hne => Below.heap_setCell w p u i (fun e => hne (by rw [e]))⟩
theorem sm_alloc {a b : World} {r : Option Nat} (h : a.grownBy b r) (o : Obj) : a.grownBy (b.alloc o) r :=
  ⟨h.os, h.tape, h.output, Nat.le_trans h.size (by simp), fun i hi hr => (Below.heap_alloc _ _ _ (Nat.lt_of_lt_of_le hi h.size)).trans (h.block i hi hr)⟩
theorem small_wrap {s b t : Int} (s1 : 3 ≤ s) (s2 : s ≤ 6) (b1 : 1 ≤ b) (b2 : b ≤ 6) (t1 : 0 ≤ t) (t2 : t ≤ 2) :
    IntKind.i64.wrap (IntKind.i64.wrap (IntKind.i64.wrap (2 * IntKind.i64.wrap ((IntKind.i64.wrap (IntKind.i64.wrap (IntKind.i64.wrap (b + 2) + s) - 1)).tdiv s)) + 6) + t) = 2 * slotN s b + 6 + t := by
  obtain ⟨l1, l2⟩ := slot_bounds s1 (show s ≤ 64 by omega) b1 (show b ≤ 128 by omega)
  rw [IntWalk.i64_in (b + 2) (by omega), IntWalk.i64_in (b + 2 + s) (by omega), IntWalk.i64_in (b + 2 + s - 1) (by omega)]
  rw [Int.tdiv_eq_ediv_of_nonneg (by omega), show (b + 2 + s - 1) / s = slotN s b from rfl]
  generalize slotN s b = n at *
  rw [IntWalk.i64_in n (by omega), IntWalk.i64_in (2 * n) (by omega), IntWalk.i64_in (2 * n + 6) (by omega), IntWalk.i64_in (2 * n + 6 + t) (by omega)]
def SmallPost (w : World) (base g : Nat) (zs : List Int) (k : Nat) (e : Ending) (w' : World) : Prop :=
  e = .returned (confV (smZ zs k) (smS zs k) (smB zs k) (smQ zs k) (smD zs k) (smH zs k)) ∧ Dice w' base g zs (smK zs k) ∧ w.grownBy w' (some g)
set_option maxHeartbeats 2000000 in
set_option maxRecDepth 20000 in
theorem small_any (w : World) (base g : Nat) (zs : List Int) (k : Nat) (hd : Dice w base g zs k) (hl : zs.length ≤ 100000) :
    Calls Try.prog 19 #[.pointer (some ⟨g, 0, none⟩)] w (SmallPost w base g zs k) := by
  have hg := dice_lt hd
  have hn0 : ∀ W, Dice W base g zs k → Calls Try.prog 24 #[.pointer (some ⟨g, 0, none⟩), .int .i64 4] W (NextPost W base g zs k 4) := fun W h => next_any W base g zs _ 4 h hl (by decide) (by decide)
  have hn1 : ∀ W, Dice W base g zs (stp zs k) → Calls Try.prog 24 #[.pointer (some ⟨g, 0, none⟩), .int .i64 6] W (NextPost W base g zs (stp zs k) 6) := fun W h => next_any W base g zs _ 6 h hl (by decide) (by decide)
  have hn2 : ∀ W, Dice W base g zs (stp zs (stp zs k)) → Calls Try.prog 24 #[.pointer (some ⟨g, 0, none⟩), .int .i64 3] W (NextPost W base g zs (stp zs (stp zs k)) 3) := fun W h => next_any W base g zs _ 3 h hl (by decide) (by decide)
  have hn3 : ∀ W, Dice W base g zs (stp zs (stp zs (stp zs k))) → Calls Try.prog 24 #[.pointer (some ⟨g, 0, none⟩), .int .i64 3] W (NextPost W base g zs (stp zs (stp zs (stp zs k))) 3) := fun W h => next_any W base g zs _ 3 h hl (by decide) (by decide)
  have hn4 : ∀ W, Dice W base g zs (stp zs (stp zs (stp zs (stp zs k)))) → Calls Try.prog 24 #[.pointer (some ⟨g, 0, none⟩), .int .i64 3] W (NextPost W base g zs (stp zs (stp zs (stp zs (stp zs k)))) 3) := fun W h => next_any W base g zs _ 3 h hl (by decide) (by decide)
  have hn5 : ∀ W, Dice W base g zs (stp zs (stp zs (stp zs (stp zs (stp zs k))))) → Calls Try.prog 24 #[.pointer (some ⟨g, 0, none⟩), .int .i64 3] W (NextPost W base g zs (stp zs (stp zs (stp zs (stp zs (stp zs k))))) 3) := fun W h => next_any W base g zs _ 3 h hl (by decide) (by decide)
  obtain ⟨⟨s1, s2⟩, ⟨b1, b2⟩, ⟨q1, q2⟩, ⟨d1, d2⟩, ⟨h1, h2⟩, ⟨t1, t2⟩⟩ := small_range zs k
  obtain ⟨l1, l2⟩ := slot_bounds (s := smS zs k) (b := smB zs k) (by omega) (by omega) (by omega) (by omega)
  unfold SmallPost smZ confV smK
  have es : 3 + nxt zs k 4 = smS zs k := rfl
  have eb : 1 + nxt zs (stp zs k) 6 = smB zs k := rfl
  have eq' : 1 + nxt zs (stp zs (stp zs k)) 3 = smQ zs k := rfl
  have ed : 1 + nxt zs (stp zs (stp zs (stp zs k))) 3 = smD zs k := rfl
  have eh : 1 + nxt zs (stp zs (stp zs (stp zs (stp zs k)))) 3 = smH zs k := rfl
  have et : nxt zs (smK5 zs k) 3 = smT zs k := rfl
  unfold smK5 at et
  unfold smK5
  unfold NextPost at hn0 hn1 hn2 hn3 hn4 hn5
  rw [et] at hn5
  generalize nxt zs k 4 = N0 at *
  generalize nxt zs (stp zs k) 6 = N1 at *
  generalize nxt zs (stp zs (stp zs k)) 3 = N2 at *
  generalize nxt zs (stp zs (stp zs (stp zs k))) 3 = N3 at *
  generalize nxt zs (stp zs (stp zs (stp zs (stp zs k)))) 3 = N4 at *
  generalize smS zs k = s at *
  generalize smB zs k = b at *
  generalize smQ zs k = q at *
  generalize smD zs k = d at *
  generalize smH zs k = h at *
  generalize smT zs k = t at *
  have N0H := Lib.hid hn0
  have N1H := Lib.hid hn1
  have N2H := Lib.hid hn2
  have N3H := Lib.hid hn3
  have N4H := Lib.hid hn4
  have N5H := Lib.hid hn5
  clear hn0 hn1 hn2 hn3 hn4 hn5 et
  have hq0 := heap_alloc_new w (confRow 0 0 0 0 0 0)
  have G0 : w.grownBy (w.alloc (confRow 0 0 0 0 0 0)) (some g) := sm_alloc ⟨rfl, rfl, rfl, Nat.le_refl _, fun _ _ _ => rfl⟩ _
  have hd0 := sm_dice_alloc hd (confRow 0 0 0 0 0 0)
  have hz0 : (w.alloc (confRow 0 0 0 0 0 0)).heap.size = w.heap.size + 1 := World.size_alloc _ _
  have hgw : w.heap.size ≠ g := by omega
  clear hd
  go_enter Try.func19, Try.ntmps19
  generalize hw0 : w.alloc (confRow 0 0 0 0 0 0) = w0 at *
  go_wp2_with (first
    | (go_at_call 24; ((with_reducible refine (N0H.out _ hd0).mono ?_); rintro e w1 ⟨rfl, hd1, hg1, hs1⟩; have hq1 := sm_row_grown hg1 hq0 hgw; have G1 := grownBy_trans G0 hg1))
    | (go_at_call 24; ((with_reducible refine (N1H.out _ hd1).mono ?_); rintro e w2 ⟨rfl, hd2, hg2, hs2⟩; have hq2 := sm_row_grown hg2 hq1 hgw; have G2 := grownBy_trans G1 hg2))
    | (go_at_call 24; ((with_reducible refine (N2H.out _ hd2).mono ?_); rintro e w3 ⟨rfl, hd3, hg3, hs3⟩; have hq3 := sm_row_grown hg3 hq2 hgw; have G3 := grownBy_trans G2 hg3))
    | (go_at_call 24; ((with_reducible refine (N3H.out _ hd3).mono ?_); rintro e w4 ⟨rfl, hd4, hg4, hs4⟩; have hq4 := sm_row_grown hg4 hq3 hgw; have G4 := grownBy_trans G3 hg4))
    | (go_at_call 24; ((with_reducible refine (N4H.out _ hd4).mono ?_); rintro e w5 ⟨rfl, hd5, hg5, hs5⟩; have hq5 := sm_row_grown hg5 hq4 hgw; have G5 := grownBy_trans G4 hg5)))
  have hX : w5.heap.size = w.heap.size + 1 := by omega
  have hrow : (w5.alloc (confRow 0 s b q d h)).drew.heap[w.heap.size + 1]? = some (confRow 0 s b q d h) := by
    have := heap_alloc_new w5 (confRow 0 s b q d h)
    rw [hX] at this
    exact this
  have hq6 : (w5.alloc (confRow 0 s b q d h)).drew.heap[w.heap.size]? = some (confRow 0 0 0 0 0 0) := lay_al hq5 _
  have hd6 : Dice (w5.alloc (confRow 0 s b q d h)).drew base g zs (stp zs (stp zs (stp zs (stp zs (stp zs k))))) := dice_drew (sm_dice_alloc hd5 _)
  have G6 : w.grownBy (w5.alloc (confRow 0 s b q d h)).drew (some g) := grownBy_trans (sm_alloc G5 _) (grownBy_drew _ _)
  have hXg : w.heap.size + 1 ≠ g := by omega
  have hXw : w.heap.size + 1 ≠ w.heap.size := by omega
  have hXl : w.heap.size ≤ w.heap.size + 1 := by omega
  have hV0 : ∀ (v : Value), (#[(.int .i64 0 : Value), .int .i64 s, .int .i64 b, .int .i64 q, .int .i64 d, .int .i64 h] : Array Value).setIfInBounds 0 v = #[v, .int .i64 s, .int .i64 b, .int .i64 q, .int .i64 d, .int .i64 h] := fun v => rfl
  generalize w.heap.size + 1 = X at *
  obtain ⟨-, c1, c2, -⟩ := conf6 hrow
  clear hd5 hq5 G5 hd4 hd3 hd2 hd1 hd0 hq4 hq3 hq2 hq1 hq0 G4 G3 G2 G1 G0 hg1 hg2 hg3 hg4 hg5 hs1 hs2 hs3 hs4 hs5 hX hz0 es eb eq' ed eh
  refine Last.start (fun W => W.cell? ⟨X, 1, none⟩ = some (.int .i64 s) ∧ W.cell? ⟨X, 2, none⟩ = some (.int .i64 b)) [(0, true), (1, true), (2, true), (3, true), (4, true), (5, true), (6, true), (7, true), (8, true), (9, true), (10, true), (11, true), (12, true), (13, false), (14, true), (15, true), (16, false)] (by kernel_rfl) (by kernel_rfl) (by kernel_rfl) (by kernel_rfl) ⟨c1, c2⟩ ?_
  simp only [List.map_cons, List.map_nil, List.getElem?_toArray, List.getElem?_cons_zero, List.getElem?_cons_succ]
  have hLV : b + 2 + s - 1 = b + 2 + s - 1 := rfl
  generalize (w5.alloc (confRow 0 s b q d h)).drew = W at *
  repeat (first | (refine Last.take ?_ (by rfl) ?_ ?_; rotate_left; (· rintro w9 ⟨u0, u1⟩; go_simp; (try rw [if_neg (by omega)]); all_goals (with_reducible rfl)); simp only [Act.put, List.setIfInBounds_toArray, List.set_cons_zero, List.set_cons_succ]))
  refine Last.call (by rfl) 24 _ ?_ (N5H.out _ hd6) ?_
  · go_simp
  rintro e w6 ⟨rfl, hd7, hg7, hs7⟩
  have hrow7 := sm_row_grown hg7 hrow hXg
  have hq7 := sm_row_grown hg7 hq6 hgw
  have G7 := grownBy_trans G6 hg7
  obtain ⟨c0, c3, c4, -⟩ := conf6 hrow7
  refine ⟨_, rfl, ⟨c3, c4⟩, ?_⟩
  simp only [Act.put, List.setIfInBounds_toArray, List.set_cons_zero, List.set_cons_succ]
  repeat (first | (refine Last.take ?_ (by rfl) ?_ ?_; rotate_left; (· rintro w9 ⟨u0, u1⟩; go_simp; (try rw [if_neg (by omega)]); all_goals (with_reducible rfl)); simp only [Act.put, List.setIfInBounds_toArray, List.set_cons_zero, List.set_cons_succ]))
  refine Last.last (by rfl) ?_
  have f0 : w6.frozen? ⟨X, 0, none⟩ = false := by simp [World.frozen?, hrow7]
  go_simp
  rw [small_wrap s1 s2 b1 b2 t1 t2]
  have hrow9 := setRow_heap w6 X _ #[.int .i64 (2 * slotN s b + 6 + t), .int .i64 s, .int .i64 b, .int .i64 q, .int .i64 d, .int .i64 h] _ _ hrow7
  have e9 := setCell_eq_setRow w6 X 0 _ _ _ (.int .i64 (2 * slotN s b + 6 + t)) hrow7
  rw [hV0] at e9
  rw [e9]
  have hq9 := (setRow_other w6 X w.heap.size #[.int .i64 (2 * slotN s b + 6 + t), .int .i64 s, .int .i64 b, .int .i64 q, .int .i64 d, .int .i64 h] (fun e => hXw e.symm)).trans hq7
  have G9 := sm_grown_row G7 hXl #[.int .i64 (2 * slotN s b + 6 + t), .int .i64 s, .int .i64 b, .int .i64 q, .int .i64 d, .int .i64 h]
  have hd9 := dice_far hd7 (sm_setRow w6 X #[.int .i64 (2 * slotN s b + 6 + t), .int .i64 s, .int .i64 b, .int .i64 q, .int .i64 d, .int .i64 h]) (by omega)
  generalize hzz : 2 * slotN s b + 6 + t = z at *
  have HZZ := Lib.hid hzz
  clear hzz
  generalize w6.setRow X #[.int .i64 z, .int .i64 s, .int .i64 b, .int .i64 q, .int .i64 d, .int .i64 h] = w9 at *
  clear c0 c3 c4 f0 c1 c2 hrow7 hq7 G7 hd7 hg7 hs7 hrow hq6 hd6 G6 hV0 e9
  go_wp2_with (first
    | ((with_reducible refine Plan.load_lit 23 (.tmp 3) X ?_ hrow9 Try.underlying23 ?_ ?_ ?_); (· rfl); (· rfl); (· exact conf_info); simp only [Act.put, List.setIfInBounds_toArray, List.set_cons_zero, List.set_cons_succ])
    | ((with_reducible refine Plan.store_lit 23 (.tmp 2) _ w.heap.size ?_ hq9 ?_ ?_ ?_ ?_ ?_ ?_); rotate_left; (· rfl); (· rfl); (· exact conf_info); (· rfl); (· simp [Value.oneCell']); simp only [Act.put]))
  exact bodyPost_ret (results_cell_row rfl _ _ _ _ _ _ _ rfl (setRow_heap _ _ _ _ _ _ hq9) Try.underlying23 rfl conf_info) rfl ⟨by rw [HZZ.out], dice_far hd9 (sm_setRow _ _ _) hg, sm_grown_row G9 (Nat.le_refl _) _⟩
end Go.Proofs.Yteifpflnadjjkaa
