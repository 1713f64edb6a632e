
/- The walks of the law's same and awake, and of LayoutExact. -/
import Derived.Test.YteifpflnadjjkaaLayRefSlots
namespace Go.Proofs.Yteifpflnadjjkaa
open Go.RowKit Plan LayMath
set_option maxHeartbeats 1000000 in
set_option maxRecDepth 20000 in
theorem laySame_some (L : List Int) (g h cg ch n : Nat) (w : World) (hl : L.length = n) (hm : n ≤ 35184372088832)
    (hG : ∀ W, Below w.heap.size w W → ∀ (i : Nat) x, L[i]? = some x → W.cell? ⟨g, i, none⟩ = some (.int .i64 x)) (hH : ∀ W, Below w.heap.size w W → ∀ (i : Nat) x, L[i]? = some x → W.cell? ⟨h, i, none⟩ = some (.int .i64 x)) :
    Calls Try.prog 12 #[.slice (some ⟨g, 0, none⟩) n cg, .slice (some ⟨h, 0, none⟩) n ch] w fun e w' => e = .returned (.bool true) ∧ Below w.heap.size w w' := by
  have HG := Lib.hid hG
  have HH := Lib.hid hH
  clear hG hH
  go_enter Try.func12, Try.ntmps12
  go_wp2_with fail
  go_loopw [5] (fun c wr => ∃ j : Nat, c = .int .i64 j ∧ j ≤ n ∧ Below w.heap.size w wr) (fun c _ => n - (intOf c).toNat)
  case atStart => exact ⟨0, rfl, by omega, Below.refl _ _⟩
  case round =>
    obtain ⟨j, rfl, hj, hb⟩ := hrel
    by_cases hlt : j < n
    · have e1 := HG.out wr hb j (L[j]'(by omega)) (List.getElem?_eq_getElem _)
      have e2 := HH.out wr hb j (L[j]'(by omega)) (List.getElem?_eq_getElem _)
      have hjI : (j : Int) < (n : Int) := by omega
      generalize L[j]'(by omega) = V at e1 e2
      go_wp2_with fail
      refine Plan.start (fun W => W.cell? ⟨g, j, none⟩ = some (.int .i64 V) ∧ W.cell? ⟨h, j, none⟩ = some (.int .i64 V)) [(0, true), (1, true), (2, true), (3, true), (4, true), (5, true), (6, true), (7, true), (8, true)] (by kernel_rfl) (by kernel_rfl) (by kernel_rfl) (by kernel_rfl) ⟨e1, e2⟩ ?_
      simp only [List.map_cons, List.map_nil, List.getElem?_toArray, List.getElem?_cons_zero, List.getElem?_cons_succ]
      repeat (first | (refine Plan.take ?_ (by rfl) ?_ ?_; rotate_left; (· rintro w9 ⟨u0, u1⟩; go_simp; (try rw [if_neg (by omega)]); all_goals (with_reducible rfl)); simp only [Act.put, List.setIfInBounds_toArray, List.set_cons_zero, List.set_cons_succ]) | (refine Plan.pass (by rfl) ?_; simp only [Act.put, List.setIfInBounds_toArray, List.set_cons_zero, List.set_cons_succ]))
      refine Plan.ends ?_
      have b9 := hb.drew
      go_wp2_with fail
      go_roundw
      case rel => exact ⟨j + 1, by go_num, by omega, b9⟩
      case measure => simp [intOf]; omega
    · obtain rfl : j = n := by omega
      go_wp2_with fail
      go_ret
      exact ⟨rfl, hb⟩
set_option maxHeartbeats 1000000 in
theorem laySame_none (w : World) : Calls Try.prog 12 #[.slice none 0 0, .slice none 0 0] w fun e w' => e = .returned (.bool true) ∧ Below w.heap.size w w' := by
  go_enter Try.func12, Try.ntmps12
  go_wp2_with fail
  go_loopw [5] (fun c wr => c = .int .i64 0 ∧ Below w.heap.size w wr) (fun _ _ => 0)
  case atStart => exact ⟨rfl, Below.refl _ _⟩
  case round =>
    obtain ⟨rfl, hb⟩ := hrel
    go_wp2_with fail
    go_ret
    exact ⟨rfl, hb⟩
theorem laySame_any (L : List Int) (v u : Value) (w : World) (hm : L.length ≤ 35184372088832) (hv : ListAt w v L) (hu : ListAt w u L) :
    Calls Try.prog 12 #[v, u] w fun e w' => e = .returned (.bool true) ∧ Below w.heap.size w w' := by
  rcases hv with ⟨rfl, rfl⟩ | ⟨g, cg, rfl, g0, g1, g2⟩
  · rcases hu with ⟨rfl, -⟩ | ⟨h, ch, rfl, h0, h1, h2⟩
    · exact laySame_none w
    · exact absurd h0 (by decide)
  · rcases hu with ⟨rfl, rfl⟩ | ⟨h, ch, rfl, h0, h1, h2⟩
    · exact absurd g0 (by decide)
    · exact laySame_some L g h cg ch _ w rfl hm (fun W hb i x hi => (hb.cell (p := ⟨g, i, none⟩) g1).trans (g2 i x hi)) (fun W hb i x hi => (hb.cell (p := ⟨h, i, none⟩) h1).trans (h2 i x hi))
theorem awake_lay (w : World) : Calls Try.prog 9 #[] w fun e w' => e = .returned (.bool true) ∧ Below w.heap.size w w' := by
  have ho := layOf_any 12 8 6 1 1 1
  rw [show ofV 12 8 6 1 1 1 = .tuple #[.agg #[.int .i64 1, .int .i64 2, .int .i64 10, .int .i64 47], .int .i64 0] from rfl] at ho
  unfold confV at ho
  have HO := Lib.hid ho
  clear ho
  go_enter Try.func9, Try.ntmps9
  go_wp2_with (first
    | (go_at_call 7; ((with_reducible refine (HO.out _).mono ?_); rintro e w1 ⟨rfl, hb1⟩; have b2 := hb1.alloc hb1.size (layRow 1 2 10 47))))
  go_ret
  exact ⟨rfl, b2⟩
theorem slotsL_length (z s b q d h k : Int) : (slotsL z s b q d h k).length ≤ 35184372088832 := by
  by_cases hy : errN z s b q d h = 0 ∧ (k = 0 ∨ k = 1)
  · obtain ⟨s1, s2, z1, z2, b1, b2, -⟩ := inR_iff.1 (errN_zero hy.1).1
    obtain ⟨l1, l2⟩ := slot_bounds s1 s2 b1 b2
    unfold slotsL
    rw [if_pos hy, upto_length]
    omega
  · unfold slotsL
    rw [if_neg hy]
    exact Nat.zero_le _
set_option maxHeartbeats 4000000 in
set_option maxRecDepth 20000 in
theorem layExact_any (z s b q d h k n : Int) (w : World) :
    Calls Try.prog 3 #[confV z s b q d h, .int .i64 k, .int .i64 n] w fun e w' => e = .returned (.bool true) ∧ Below w.heap.size w w' := by
  have hA := (Below.refl w.heap.size w).alloc (Nat.le_refl _) (confRow z s b q d h)
  have hx0 := heap_alloc_new w (confRow z s b q d h)
  have ho := layOf_any z s b q d h
  have ho2 := layRefOf_any z s b q d h
  have hc := layCheck_any z s b q d h
  have hc2 := layRefCheck_any z s b q d h
  have hs := slots_any z s b q d h k
  have hs2 := refSlots_any z s b q d h k
  have hd := isData_any z s b q d h n
  have hd2 := refIsData_any z s b q d h n
  have hL := slotsL_length z s b q d h k
  obtain ⟨x1, x2, x3, x4, hx, -⟩ := layE_agg z s b q d h
  unfold ofV at ho ho2
  rw [hx] at ho ho2
  clear hx
  unfold SlotPost at hs hs2
  unfold confV at *
  generalize errN z s b q d h = E at *
  generalize slotsL z s b q d h k = SL at *
  generalize isN z s b q d h n = IN at *
  have HO := Lib.hid ho
  have HO2 := Lib.hid ho2
  have HC := Lib.hid hc
  have HC2 := Lib.hid hc2
  have HS := Lib.hid hs
  have HS2 := Lib.hid hs2
  have HD := Lib.hid hd
  have HD2 := Lib.hid hd2
  have HL := Lib.hid hL
  clear ho ho2 hc hc2 hs hs2 hd hd2 hL
  go_enter Try.func3, Try.ntmps3
  generalize hw0 : w.alloc (confRow z s b q d h) = w0 at *
  obtain ⟨d0, d1, d2, d3, d4, d5⟩ := conf6 hx0
  go_wp2_with (first
    | (go_at_call 7; ((with_reducible refine (HO.out _).mono ?_); rintro e w1 ⟨rfl, hb1⟩; have hx1 := lay_al (lay_on hb1 hx0 (lay_lt hx0)) (layRow x1 x2 x3 x4); have hy1 := heap_alloc_new w1 (layRow x1 x2 x3 x4); have b1 := (hA.trans (hb1.mono hA.size)).alloc (hA.trans (hb1.mono hA.size)).size (layRow x1 x2 x3 x4); clear d0 d1 d2 d3 d4 d5; obtain ⟨d0, d1, d2, d3, d4, d5⟩ := conf6 hx1))
    | (go_at_call 8; ((with_reducible refine (HO2.out _).mono ?_); rintro e w2 ⟨rfl, hb2⟩; have hx2 := lay_al (lay_on hb2 hx1 (lay_lt hx1)) (layRow x1 x2 x3 x4); have hy2 := lay_al (lay_on hb2 hy1 (lay_lt hy1)) (layRow x1 x2 x3 x4); have hz2 := heap_alloc_new w2 (layRow x1 x2 x3 x4); have b2 := (b1.trans (hb2.mono b1.size)).alloc (b1.trans (hb2.mono b1.size)).size (layRow x1 x2 x3 x4); clear d0 d1 d2 d3 d4 d5)))
  generalize w2.alloc (.cells #[.int .i64 x1, .int .i64 x2, .int .i64 x3, .int .i64 x4] 25) = W at *
  have l1 := lay_lt hx2
  have l2 := lay_lt hy2
  have l3 := lay_lt hz2
  obtain ⟨d0, d1, d2, d3, d4, d5⟩ := conf6 hx2
  obtain ⟨-, e0, e1, e2, e3⟩ := lay4 hy2
  obtain ⟨-, f0, f1, f2, f3⟩ := lay4 hz2
  generalize w1.heap.size = G1 at *
  generalize w2.heap.size = G2 at *
  clear hx2 hy2 hz2
  have hS0 : Held W.heap.size W W.drew := held_same
  refine Plan.start (Held W.heap.size W) [(0, false), (1, true), (2, true), (4, true), (3, false), (5, false), (6, true), (7, true), (8, true), (9, true), (10, true), (11, true), (12, true), (13, true), (14, true), (15, true), (16, true), (17, true), (18, true), (19, true), (20, true), (22, true), (23, true), (21, false), (24, false), (25, false), (26, true), (27, true), (28, true), (29, true), (31, true), (32, true), (30, false), (33, false), (34, true), (35, true), (36, true)] (by kernel_rfl) (by kernel_rfl) (by kernel_rfl) (by kernel_rfl) hS0 ?_
  simp only [List.map_cons, List.map_nil, List.getElem?_toArray, List.getElem?_cons_zero, List.getElem?_cons_succ]
  refine Plan.call (by rfl) 9 _ ?_ (awake_lay _) ?_
  · go_simp
  rintro e v1 ⟨rfl, hbv1⟩
  have hSv1 := held_call (Nat.le_refl _) hS0 hbv1
  refine ⟨_, rfl, hSv1, ?_⟩
  simp only [Act.put, List.setIfInBounds_toArray, List.set_cons_zero, List.set_cons_succ]
  repeat (first | (refine Plan.take ?_ (by rfl) ?_ ?_; rotate_left; (· rintro w9 ⟨hS9, -⟩; go_simp; (try rw [if_neg (by omega)]); all_goals (with_reducible rfl)); simp only [Act.put, List.setIfInBounds_toArray, List.set_cons_zero, List.set_cons_succ]) | (refine Plan.pass (by rfl) ?_; simp only [Act.put, List.setIfInBounds_toArray, List.set_cons_zero, List.set_cons_succ]))
  refine Plan.call (by rfl) 10 _ ?_ (HC.out _) ?_
  · go_simp
  rintro e v2 ⟨rfl, hbv2⟩
  have hSv2 := held_call (Nat.le_refl _) hSv1 hbv2
  refine ⟨_, rfl, hSv2, ?_⟩
  simp only [Act.put, List.setIfInBounds_toArray, List.set_cons_zero, List.set_cons_succ]
  repeat (first | (refine Plan.take ?_ (by rfl) ?_ ?_; rotate_left; (· rintro w9 ⟨hS9, -⟩; go_simp; (try rw [if_neg (by omega)]); all_goals (with_reducible rfl)); simp only [Act.put, List.setIfInBounds_toArray, List.set_cons_zero, List.set_cons_succ]) | (refine Plan.pass (by rfl) ?_; simp only [Act.put, List.setIfInBounds_toArray, List.set_cons_zero, List.set_cons_succ]))
  refine Plan.call (by rfl) 11 _ ?_ (HC2.out _) ?_
  · go_simp
  rintro e v3 ⟨rfl, hbv3⟩
  have hSv3 := held_call (Nat.le_refl _) hSv2 hbv3
  refine ⟨_, rfl, hSv3, ?_⟩
  simp only [Act.put, List.setIfInBounds_toArray, List.set_cons_zero, List.set_cons_succ]
  repeat (first | (refine Plan.take ?_ (by rfl) ?_ ?_; rotate_left; (· rintro w9 ⟨hS9, -⟩; go_simp; (try rw [if_neg (by omega)]); all_goals (with_reducible rfl)); simp only [Act.put, List.setIfInBounds_toArray, List.set_cons_zero, List.set_cons_succ]) | (refine Plan.pass (by rfl) ?_; simp only [Act.put, List.setIfInBounds_toArray, List.set_cons_zero, List.set_cons_succ]))
  refine Plan.call (by rfl) 13 _ ?_ (HS.out _) ?_
  · go_simp
  rintro e v4 ⟨la, rfl, hla, hbv4⟩
  have hSv4 := held_call (Nat.le_refl _) hSv3 hbv4
  refine ⟨_, rfl, hSv4, ?_⟩
  simp only [Act.put, List.setIfInBounds_toArray, List.set_cons_zero, List.set_cons_succ]
  repeat (first | (refine Plan.take ?_ (by rfl) ?_ ?_; rotate_left; (· rintro w9 ⟨hS9, -⟩; go_simp; (try rw [if_neg (by omega)]); all_goals (with_reducible rfl)); simp only [Act.put, List.setIfInBounds_toArray, List.set_cons_zero, List.set_cons_succ]) | (refine Plan.pass (by rfl) ?_; simp only [Act.put, List.setIfInBounds_toArray, List.set_cons_zero, List.set_cons_succ]))
  refine Plan.call (by rfl) 14 _ ?_ (HS2.out _) ?_
  · go_simp
  rintro e v5 ⟨lb, rfl, hlb, hbv5⟩
  have hSv5 := held_call (Nat.le_refl _) hSv4 hbv5
  have hla5 := hla.on hbv5
  refine ⟨_, rfl, hSv5, ?_⟩
  simp only [Act.put, List.setIfInBounds_toArray, List.set_cons_zero, List.set_cons_succ]
  repeat (first | (refine Plan.take ?_ (by rfl) ?_ ?_; rotate_left; (· rintro w9 ⟨hS9, -⟩; go_simp; (try rw [if_neg (by omega)]); all_goals (with_reducible rfl)); simp only [Act.put, List.setIfInBounds_toArray, List.set_cons_zero, List.set_cons_succ]) | (refine Plan.pass (by rfl) ?_; simp only [Act.put, List.setIfInBounds_toArray, List.set_cons_zero, List.set_cons_succ]))
  refine Plan.call (by rfl) 12 _ ?_ (laySame_any SL la lb v5 HL.out hla5 hlb) ?_
  · go_simp
  rintro e v6 ⟨rfl, hbv6⟩
  have hSv6 := held_call (Nat.le_refl _) hSv5 hbv6
  refine ⟨_, rfl, hSv6, ?_⟩
  simp only [Act.put, List.setIfInBounds_toArray, List.set_cons_zero, List.set_cons_succ]
  repeat (first | (refine Plan.take ?_ (by rfl) ?_ ?_; rotate_left; (· rintro w9 ⟨hS9, -⟩; go_simp; (try rw [if_neg (by omega)]); all_goals (with_reducible rfl)); simp only [Act.put, List.setIfInBounds_toArray, List.set_cons_zero, List.set_cons_succ]) | (refine Plan.pass (by rfl) ?_; simp only [Act.put, List.setIfInBounds_toArray, List.set_cons_zero, List.set_cons_succ]))
  refine Plan.call (by rfl) 15 _ ?_ (HD.out _) ?_
  · go_simp
  rintro e v7 ⟨rfl, hbv7⟩
  have hSv7 := held_call (Nat.le_refl _) hSv6 hbv7
  refine ⟨_, rfl, hSv7, ?_⟩
  simp only [Act.put, List.setIfInBounds_toArray, List.set_cons_zero, List.set_cons_succ]
  repeat (first | (refine Plan.take ?_ (by rfl) ?_ ?_; rotate_left; (· rintro w9 ⟨hS9, -⟩; go_simp; (try rw [if_neg (by omega)]); all_goals (with_reducible rfl)); simp only [Act.put, List.setIfInBounds_toArray, List.set_cons_zero, List.set_cons_succ]) | (refine Plan.pass (by rfl) ?_; simp only [Act.put, List.setIfInBounds_toArray, List.set_cons_zero, List.set_cons_succ]))
  refine Plan.call (by rfl) 16 _ ?_ (HD2.out _) ?_
  · go_simp
  rintro e v8 ⟨rfl, hbv8⟩
  have hSv8 := held_call (Nat.le_refl _) hSv7 hbv8
  refine ⟨_, rfl, hSv8, ?_⟩
  simp only [Act.put, List.setIfInBounds_toArray, List.set_cons_zero, List.set_cons_succ]
  repeat (first | (refine Plan.take ?_ (by rfl) ?_ ?_; rotate_left; (· rintro w9 ⟨hS9, -⟩; go_simp; (try rw [if_neg (by omega)]); all_goals (with_reducible rfl)); simp only [Act.put, List.setIfInBounds_toArray, List.set_cons_zero, List.set_cons_succ]) | (refine Plan.pass (by rfl) ?_; simp only [Act.put, List.setIfInBounds_toArray, List.set_cons_zero, List.set_cons_succ]))
  refine Plan.ends ?_
  go_wp2_with fail
  go_ret
  exact ⟨rfl, b2.trans (hSv8.2.mono b2.size)⟩
end Go.Proofs.Yteifpflnadjjkaa
