
/- What the program's locks are to do, in the words of the contracts of the document's own; the walk of the law's agree under it. -/
import Derived.Test.YtoclcefnecghfaaLckHeld
namespace Go.Proofs.Ytoclcefnecghfaa.Ents
open Go.RowKit Plan EntMath CntMath LckMath
structure LocksOk : Prop where
  new : ∀ (s : Int) (w : World), Calls Try.prog 8 #[.int .i64 s] w (LNewPost w (newK s) (newKE s))
  valid : ∀ (F : Nat → Prop) (O : List Int) (a : Option Addr) (n c : Nat) (w : World), IList w F a n c O → n ≤ 1000 →
    Calls Try.prog 16 #[lckV a n c] w fun r w' => r = .returned (.bool (validK O)) ∧ Below w.heap.size w w'
  free : ∀ (F : Nat → Prop) (O : List Int) (s : Int) (a : Option Addr) (n c : Nat) (w : World), IList w F a n c O → n ≤ 1000 →
    Calls Try.prog 18 #[lckV a n c, .int .i64 s] w fun r w' => r = .returned (.bool (freeK O s)) ∧ Below w.heap.size w w'
  take : ∀ (F : Nat → Prop) (O : List Int) (s t : Int) (a : Option Addr) (n c : Nat) (w : World), (∀ b, F b → b < w.heap.size) → IList w F a n c O → n ≤ 1000 →
    Calls Try.prog 13 #[lckV a n c, .int .i64 s, .int .i64 t] w (LckPost w F (takeL O s t) (takeB O s t))
  give : ∀ (F : Nat → Prop) (O : List Int) (s t : Int) (a : Option Addr) (n c : Nat) (w : World), (∀ b, F b → b < w.heap.size) → IList w F a n c O → n ≤ 1000 →
    Calls Try.prog 14 #[lckV a n c, .int .i64 s, .int .i64 t] w (LckPost w F (giveL O s t) (giveB O s t))
  held : ∀ (F : Nat → Prop) (O : List Int) (t : Int) (a : Option Addr) (n c : Nat) (w : World), IList w F a n c O → n ≤ 1000 →
    Calls Try.prog 15 #[lckV a n c, .int .i64 t] w (HeldPost w (heldL O t))
set_option maxHeartbeats 16000000 in
set_option maxRecDepth 20000 in
theorem lckAgree_any (H : LocksOk) (F : Nat → Prop) (O : List Int) (s t : Int) (a : Option Addr) (n c : Nat) (w : World) (hl : IList w F a n c O) (hn : n ≤ 1000) :
    Calls Try.prog 6 #[lckV a n c, .int .i64 s, .int .i64 t] w fun r w' => r = .returned (.bool true) ∧ Below w.heap.size w w' := by
  have hb := (Below.refl w.heap.size w).alloc (Nat.le_refl _) (lckRow a n c)
  have hx := heap_alloc_new w (lckRow a n c)
  have hlw : ∀ W, Below w.heap.size w W → IList W (fun b => b < w.heap.size) a n c O := fun W h => hl.same h
  have hFw : ∀ W, Below w.heap.size w W → ∀ b, b < w.heap.size → b < W.heap.size := fun W h b hb => Nat.lt_of_lt_of_le hb h.size
  have V1 := Lib.hid fun W h => H.valid _ O a n c W (hlw W h) hn
  have V2 := Lib.hid fun W h => refLValid_any _ O a n c W (hlw W h)
  have F1 := Lib.hid fun W h => H.free _ O s a n c W (hlw W h) hn
  have F2 := Lib.hid fun W h => refFree_any _ O s a n c W (hlw W h)
  have T1 := fun W h => H.take _ O s t a n c W (hFw W h) (hlw W h) hn
  have T2 := fun W h => refTake_lck _ O s t a n c W (hlw W h)
  have G1 := fun W h => H.give _ O s t a n c W (hFw W h) (hlw W h) hn
  have G2 := fun W h => refGive_lck _ O s t a n c W (hlw W h)
  have K1 := fun W h => H.held _ O t a n c W (hlw W h) hn
  have K2 := fun W h => refHeld_any _ O t a n c W (hlw W h) (by omega)
  clear hlw hFw hl
  unfold LckPost at T1 T2 G1 G2
  unfold HeldPost at K1 K2
  generalize validK O = VB at V1 V2
  generalize freeK O s = FB at F1 F2
  generalize takeL O s t = TL at T1 T2
  generalize takeB O s t = TB at T1 T2
  generalize giveL O s t = GL at G1 G2
  generalize giveB O s t = GB at G1 G2
  generalize heldL O t = KL at K1 K2
  replace T1 := Lib.hid T1
  replace T2 := Lib.hid T2
  replace G1 := Lib.hid G1
  replace G2 := Lib.hid G2
  replace K1 := Lib.hid K1
  replace K2 := Lib.hid K2
  go_enter Try.func6, Try.ntmps6
  generalize hw0 : w.alloc (lckRow a n c) = w0 at *
  go_wp2_with (first
    | ((with_reducible refine Plan.load_lit 24 (.tmp 3) (w.heap.size) ?_ hx Try.underlying24 ?_ ?_ ?_); (· rfl); (· rfl); (· exact lck_info); simp only [Act.put, List.setIfInBounds_toArray, List.set_cons_zero, List.set_cons_succ])
    | (go_at_call 13; ((with_reducible refine (T1.out _ hb).mono ?_); rintro r9 w1 ⟨a1, n1, c1, rfl, l1, h9⟩; have hx := e_al (e_on h9 hx (e_lt hx)) (lckRow a1 n1 c1); have r1 := heap_alloc_new w1 (lckRow a1 n1 c1); have l1 := l1.on (Same.alloc w1 (lckRow a1 n1 c1)); have hb := hb.trans (h9.mono hb.size); have hb := hb.alloc hb.size (lckRow a1 n1 c1); clear T1 h9))
    | (go_at_call 11; ((with_reducible refine (T2.out _ hb).mono ?_); rintro r9 w2 ⟨a2, n2, c2, rfl, l2, h9⟩; have hx := e_al (e_on h9 hx (e_lt hx)) (lckRow a2 n2 c2); have r1 := e_al (e_on h9 r1 (e_lt r1)) (lckRow a2 n2 c2); have l1 := ((l1.cut).on (Same.below h9)).on (Same.alloc w2 (lckRow a2 n2 c2)); have r2 := heap_alloc_new w2 (lckRow a2 n2 c2); have l2 := l2.on (Same.alloc w2 (lckRow a2 n2 c2)); have hb := hb.trans (h9.mono hb.size); have hb := hb.alloc hb.size (lckRow a2 n2 c2); clear T2 h9))
    | (go_at_call 14; ((with_reducible refine (G1.out _ hb).mono ?_); rintro r9 w3 ⟨a3, n3, c3, rfl, l3, h9⟩; have hx := e_al (e_on h9 hx (e_lt hx)) (lckRow a3 n3 c3); have r1 := e_al (e_on h9 r1 (e_lt r1)) (lckRow a3 n3 c3); have l1 := ((l1.cut).on (Same.below h9)).on (Same.alloc w3 (lckRow a3 n3 c3)); have r2 := e_al (e_on h9 r2 (e_lt r2)) (lckRow a3 n3 c3); have l2 := ((l2.cut).on (Same.below h9)).on (Same.alloc w3 (lckRow a3 n3 c3)); have r3 := heap_alloc_new w3 (lckRow a3 n3 c3); have l3 := l3.on (Same.alloc w3 (lckRow a3 n3 c3)); have hb := hb.trans (h9.mono hb.size); have hb := hb.alloc hb.size (lckRow a3 n3 c3); clear G1 h9))
    | (go_at_call 12; ((with_reducible refine (G2.out _ hb).mono ?_); rintro r9 w4 ⟨a4, n4, c4, rfl, l4, h9⟩; have hx := e_al (e_on h9 hx (e_lt hx)) (lckRow a4 n4 c4); have r1 := e_al (e_on h9 r1 (e_lt r1)) (lckRow a4 n4 c4); have l1 := ((l1.cut).on (Same.below h9)).on (Same.alloc w4 (lckRow a4 n4 c4)); have r2 := e_al (e_on h9 r2 (e_lt r2)) (lckRow a4 n4 c4); have l2 := ((l2.cut).on (Same.below h9)).on (Same.alloc w4 (lckRow a4 n4 c4)); have r3 := e_al (e_on h9 r3 (e_lt r3)) (lckRow a4 n4 c4); have l3 := ((l3.cut).on (Same.below h9)).on (Same.alloc w4 (lckRow a4 n4 c4)); have r4 := heap_alloc_new w4 (lckRow a4 n4 c4); have l4 := l4.on (Same.alloc w4 (lckRow a4 n4 c4)); have hb := hb.trans (h9.mono hb.size); have hb := hb.alloc hb.size (lckRow a4 n4 c4); clear G2 h9)))
  refine Plan.start (fun W => W.cell? ⟨w.heap.size, 0, none⟩ = some (.slice a n c) ∧ W.cell? ⟨w1.heap.size, 0, none⟩ = some (.slice a1 n1 c1) ∧ W.cell? ⟨w2.heap.size, 0, none⟩ = some (.slice a2 n2 c2) ∧ W.cell? ⟨w3.heap.size, 0, none⟩ = some (.slice a3 n3 c3) ∧ W.cell? ⟨w4.heap.size, 0, none⟩ = some (.slice a4 n4 c4)) [(0, true), (1, true), (2, true), (3, true), (4, true), (5, true), (6, true), (7, true), (8, true), (9, true), (10, true), (11, true), (12, true), (13, false), (14, true), (15, true), (16, true), (17, true), (18, true), (19, true), (20, false), (21, true), (22, true), (23, true), (25, true), (24, false), (26, false), (27, true), (28, true), (29, true), (30, true), (31, true), (33, true), (34, true), (32, false), (35, false), (36, true), (37, true), (38, true), (39, true), (40, true), (42, true), (43, true), (41, false), (44, false), (45, false), (46, true), (47, true)] (by kernel_rfl) (by kernel_rfl) (by kernel_rfl) (by kernel_rfl) ⟨one_row hx, one_row r1, one_row r2, one_row r3, one_row r4⟩ ?_
  simp only [List.map_cons, List.map_nil, List.getElem?_toArray, List.getElem?_cons_zero, List.getElem?_cons_succ]
  generalize w4.alloc (lckRow a4 n4 c4) = w5 at *
  have hb := hb.drew
  have hx : w5.drew.heap[w.heap.size]? = _ := hx
  have r1 : w5.drew.heap[w1.heap.size]? = _ := r1
  have r2 : w5.drew.heap[w2.heap.size]? = _ := r2
  have r3 : w5.drew.heap[w3.heap.size]? = _ := r3
  have r4 : w5.drew.heap[w4.heap.size]? = _ := r4
  have l1 := l1.on (w' := w5.drew) ⟨Nat.le_refl _, fun _ _ _ => rfl⟩
  have l2 := l2.on (w' := w5.drew) ⟨Nat.le_refl _, fun _ _ _ => rfl⟩
  have l3 := l3.on (w' := w5.drew) ⟨Nat.le_refl _, fun _ _ _ => rfl⟩
  have l4 := l4.on (w' := w5.drew) ⟨Nat.le_refl _, fun _ _ _ => rfl⟩
  generalize w5.drew = w6 at *
  repeat (first | (refine Plan.take ?_ (by rfl) ?_ ?_; rotate_left; (· rintro w9 ⟨u0, u1, u2, u3, u4⟩; go_simp; (try rw [if_neg (by omega)]); all_goals (with_reducible rfl)); simp only [Act.put, List.setIfInBounds_toArray, List.set_cons_zero, List.set_cons_succ]) | (refine Plan.pass (by rfl) ?_; simp only [Act.put, List.setIfInBounds_toArray, List.set_cons_zero, List.set_cons_succ]))
  refine Plan.call (by rfl) 10 _ ?_ (sameInts_any _ _ _ _ _ _ _ _ _ _ l1 l2) ?_
  · go_simp
  rintro r9 w9 ⟨rfl, h9⟩
  have hb := hb.trans (h9.mono hb.size)
  have hx := e_on h9 hx (e_lt hx)
  have r1 := e_on h9 r1 (e_lt r1)
  have r2 := e_on h9 r2 (e_lt r2)
  have r3 := e_on h9 r3 (e_lt r3)
  have r4 := e_on h9 r4 (e_lt r4)
  have l3 := l3.cut.on (Same.below h9)
  have l4 := l4.cut.on (Same.below h9)
  refine ⟨_, rfl, ⟨one_row hx, one_row r1, one_row r2, one_row r3, one_row r4⟩, ?_⟩
  simp only [Act.put, List.setIfInBounds_toArray, List.set_cons_zero, List.set_cons_succ]
  repeat (first | (refine Plan.take ?_ (by rfl) ?_ ?_; rotate_left; (· rintro w9 ⟨u0, u1, u2, u3, u4⟩; go_simp; (try rw [if_neg (by omega)]); all_goals (with_reducible rfl)); simp only [Act.put, List.setIfInBounds_toArray, List.set_cons_zero, List.set_cons_succ]) | (refine Plan.pass (by rfl) ?_; simp only [Act.put, List.setIfInBounds_toArray, List.set_cons_zero, List.set_cons_succ]))
  clear h9
  refine Plan.call (by rfl) 10 _ ?_ (sameInts_any _ _ _ _ _ _ _ _ _ _ l3 l4) ?_
  · go_simp
  rintro r9 w9 ⟨rfl, h9⟩
  have hb := hb.trans (h9.mono hb.size)
  have hx := e_on h9 hx (e_lt hx)
  have r1 := e_on h9 r1 (e_lt r1)
  have r2 := e_on h9 r2 (e_lt r2)
  have r3 := e_on h9 r3 (e_lt r3)
  have r4 := e_on h9 r4 (e_lt r4)
  have l3 := l3.cut.on (Same.below h9)
  have l4 := l4.cut.on (Same.below h9)
  refine ⟨_, rfl, ⟨one_row hx, one_row r1, one_row r2, one_row r3, one_row r4⟩, ?_⟩
  simp only [Act.put, List.setIfInBounds_toArray, List.set_cons_zero, List.set_cons_succ]
  repeat (first | (refine Plan.take ?_ (by rfl) ?_ ?_; rotate_left; (· rintro w9 ⟨u0, u1, u2, u3, u4⟩; go_simp; (try rw [if_neg (by omega)]); all_goals (with_reducible rfl)); simp only [Act.put, List.setIfInBounds_toArray, List.set_cons_zero, List.set_cons_succ]) | (refine Plan.pass (by rfl) ?_; simp only [Act.put, List.setIfInBounds_toArray, List.set_cons_zero, List.set_cons_succ]))
  clear h9
  refine Plan.call (by rfl) 16 _ ?_ (V1.out _ hb) ?_
  · go_simp
  rintro r9 w9 ⟨rfl, h9⟩
  have hb := hb.trans (h9.mono hb.size)
  have hx := e_on h9 hx (e_lt hx)
  have r1 := e_on h9 r1 (e_lt r1)
  have r2 := e_on h9 r2 (e_lt r2)
  have r3 := e_on h9 r3 (e_lt r3)
  have r4 := e_on h9 r4 (e_lt r4)
  have l3 := l3.cut.on (Same.below h9)
  have l4 := l4.cut.on (Same.below h9)
  refine ⟨_, rfl, ⟨one_row hx, one_row r1, one_row r2, one_row r3, one_row r4⟩, ?_⟩
  simp only [Act.put, List.setIfInBounds_toArray, List.set_cons_zero, List.set_cons_succ]
  repeat (first | (refine Plan.take ?_ (by rfl) ?_ ?_; rotate_left; (· rintro w9 ⟨u0, u1, u2, u3, u4⟩; go_simp; (try rw [if_neg (by omega)]); all_goals (with_reducible rfl)); simp only [Act.put, List.setIfInBounds_toArray, List.set_cons_zero, List.set_cons_succ]) | (refine Plan.pass (by rfl) ?_; simp only [Act.put, List.setIfInBounds_toArray, List.set_cons_zero, List.set_cons_succ]))
  clear h9
  refine Plan.call (by rfl) 17 _ ?_ (V2.out _ hb) ?_
  · go_simp
  rintro r9 w9 ⟨rfl, h9⟩
  have hb := hb.trans (h9.mono hb.size)
  have hx := e_on h9 hx (e_lt hx)
  have r1 := e_on h9 r1 (e_lt r1)
  have r2 := e_on h9 r2 (e_lt r2)
  have r3 := e_on h9 r3 (e_lt r3)
  have r4 := e_on h9 r4 (e_lt r4)
  have l3 := l3.cut.on (Same.below h9)
  have l4 := l4.cut.on (Same.below h9)
  refine ⟨_, rfl, ⟨one_row hx, one_row r1, one_row r2, one_row r3, one_row r4⟩, ?_⟩
  simp only [Act.put, List.setIfInBounds_toArray, List.set_cons_zero, List.set_cons_succ]
  repeat (first | (refine Plan.take ?_ (by rfl) ?_ ?_; rotate_left; (· rintro w9 ⟨u0, u1, u2, u3, u4⟩; go_simp; (try rw [if_neg (by omega)]); all_goals (with_reducible rfl)); simp only [Act.put, List.setIfInBounds_toArray, List.set_cons_zero, List.set_cons_succ]) | (refine Plan.pass (by rfl) ?_; simp only [Act.put, List.setIfInBounds_toArray, List.set_cons_zero, List.set_cons_succ]))
  clear h9
  refine Plan.call (by rfl) 18 _ ?_ (F1.out _ hb) ?_
  · go_simp
  rintro r9 w9 ⟨rfl, h9⟩
  have hb := hb.trans (h9.mono hb.size)
  have hx := e_on h9 hx (e_lt hx)
  have r1 := e_on h9 r1 (e_lt r1)
  have r2 := e_on h9 r2 (e_lt r2)
  have r3 := e_on h9 r3 (e_lt r3)
  have r4 := e_on h9 r4 (e_lt r4)
  have l3 := l3.cut.on (Same.below h9)
  have l4 := l4.cut.on (Same.below h9)
  refine ⟨_, rfl, ⟨one_row hx, one_row r1, one_row r2, one_row r3, one_row r4⟩, ?_⟩
  simp only [Act.put, List.setIfInBounds_toArray, List.set_cons_zero, List.set_cons_succ]
  repeat (first | (refine Plan.take ?_ (by rfl) ?_ ?_; rotate_left; (· rintro w9 ⟨u0, u1, u2, u3, u4⟩; go_simp; (try rw [if_neg (by omega)]); all_goals (with_reducible rfl)); simp only [Act.put, List.setIfInBounds_toArray, List.set_cons_zero, List.set_cons_succ]) | (refine Plan.pass (by rfl) ?_; simp only [Act.put, List.setIfInBounds_toArray, List.set_cons_zero, List.set_cons_succ]))
  clear h9
  refine Plan.call (by rfl) 19 _ ?_ (F2.out _ hb) ?_
  · go_simp
  rintro r9 w9 ⟨rfl, h9⟩
  have hb := hb.trans (h9.mono hb.size)
  have hx := e_on h9 hx (e_lt hx)
  have r1 := e_on h9 r1 (e_lt r1)
  have r2 := e_on h9 r2 (e_lt r2)
  have r3 := e_on h9 r3 (e_lt r3)
  have r4 := e_on h9 r4 (e_lt r4)
  have l3 := l3.cut.on (Same.below h9)
  have l4 := l4.cut.on (Same.below h9)
  refine ⟨_, rfl, ⟨one_row hx, one_row r1, one_row r2, one_row r3, one_row r4⟩, ?_⟩
  simp only [Act.put, List.setIfInBounds_toArray, List.set_cons_zero, List.set_cons_succ]
  repeat (first | (refine Plan.take ?_ (by rfl) ?_ ?_; rotate_left; (· rintro w9 ⟨u0, u1, u2, u3, u4⟩; go_simp; (try rw [if_neg (by omega)]); all_goals (with_reducible rfl)); simp only [Act.put, List.setIfInBounds_toArray, List.set_cons_zero, List.set_cons_succ]) | (refine Plan.pass (by rfl) ?_; simp only [Act.put, List.setIfInBounds_toArray, List.set_cons_zero, List.set_cons_succ]))
  clear h9
  refine Plan.call (by rfl) 15 _ ?_ (K1.out _ hb) ?_
  · go_simp
  rintro r9 w9 ⟨a5, n5, c5, rfl, l5, h9⟩
  have hb := hb.trans (h9.mono hb.size)
  have hx := e_on h9 hx (e_lt hx)
  have r1 := e_on h9 r1 (e_lt r1)
  have r2 := e_on h9 r2 (e_lt r2)
  have r3 := e_on h9 r3 (e_lt r3)
  have r4 := e_on h9 r4 (e_lt r4)
  have l3 := l3.cut.on (Same.below h9)
  have l4 := l4.cut.on (Same.below h9)
  refine ⟨_, rfl, ⟨one_row hx, one_row r1, one_row r2, one_row r3, one_row r4⟩, ?_⟩
  simp only [Act.put, List.setIfInBounds_toArray, List.set_cons_zero, List.set_cons_succ]
  repeat (first | (refine Plan.take ?_ (by rfl) ?_ ?_; rotate_left; (· rintro w9 ⟨u0, u1, u2, u3, u4⟩; go_simp; (try rw [if_neg (by omega)]); all_goals (with_reducible rfl)); simp only [Act.put, List.setIfInBounds_toArray, List.set_cons_zero, List.set_cons_succ]) | (refine Plan.pass (by rfl) ?_; simp only [Act.put, List.setIfInBounds_toArray, List.set_cons_zero, List.set_cons_succ]))
  clear h9
  refine Plan.call (by rfl) 20 _ ?_ (K2.out _ hb) ?_
  · go_simp
  rintro r9 w9 ⟨a6, n6, c6, rfl, l6, h9⟩
  have hb := hb.trans (h9.mono hb.size)
  have hx := e_on h9 hx (e_lt hx)
  have r1 := e_on h9 r1 (e_lt r1)
  have r2 := e_on h9 r2 (e_lt r2)
  have r3 := e_on h9 r3 (e_lt r3)
  have r4 := e_on h9 r4 (e_lt r4)
  have l3 := l3.cut.on (Same.below h9)
  have l4 := l4.cut.on (Same.below h9)
  have l5 := l5.cut.on (Same.below h9)
  refine ⟨_, rfl, ⟨one_row hx, one_row r1, one_row r2, one_row r3, one_row r4⟩, ?_⟩
  simp only [Act.put, List.setIfInBounds_toArray, List.set_cons_zero, List.set_cons_succ]
  repeat (first | (refine Plan.take ?_ (by rfl) ?_ ?_; rotate_left; (· rintro w9 ⟨u0, u1, u2, u3, u4⟩; go_simp; (try rw [if_neg (by omega)]); all_goals (with_reducible rfl)); simp only [Act.put, List.setIfInBounds_toArray, List.set_cons_zero, List.set_cons_succ]) | (refine Plan.pass (by rfl) ?_; simp only [Act.put, List.setIfInBounds_toArray, List.set_cons_zero, List.set_cons_succ]))
  clear h9
  refine Plan.call (by rfl) 10 _ ?_ (sameInts_any _ _ _ _ _ _ _ _ _ _ l5 l6) ?_
  · go_simp
  rintro r9 w9 ⟨rfl, h9⟩
  have hb := hb.trans (h9.mono hb.size)
  have hx := e_on h9 hx (e_lt hx)
  have r1 := e_on h9 r1 (e_lt r1)
  have r2 := e_on h9 r2 (e_lt r2)
  have r3 := e_on h9 r3 (e_lt r3)
  have r4 := e_on h9 r4 (e_lt r4)
  have l3 := l3.cut.on (Same.below h9)
  have l4 := l4.cut.on (Same.below h9)
  refine ⟨_, rfl, ⟨one_row hx, one_row r1, one_row r2, one_row r3, one_row r4⟩, ?_⟩
  simp only [Act.put, List.setIfInBounds_toArray, List.set_cons_zero, List.set_cons_succ]
  repeat (first | (refine Plan.take ?_ (by rfl) ?_ ?_; rotate_left; (· rintro w9 ⟨u0, u1, u2, u3, u4⟩; go_simp; (try rw [if_neg (by omega)]); all_goals (with_reducible rfl)); simp only [Act.put, List.setIfInBounds_toArray, List.set_cons_zero, List.set_cons_succ]) | (refine Plan.pass (by rfl) ?_; simp only [Act.put, List.setIfInBounds_toArray, List.set_cons_zero, List.set_cons_succ]))
  clear h9
  refine Plan.ends ?_
  go_wp2_with fail
  go_ret
  exact ⟨rfl, hb⟩
end Go.Proofs.Ytoclcefnecghfaa.Ents
