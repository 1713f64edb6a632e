/- MediaKeeps: what is durable is never lost in a power failure, what stays is the beginning of what was there, behind a flush nothing is lost, and a second failure changes nothing. No condition. -/
import Derived.Test.YtlplomofgbmgaaaPack15
import Derived.Test.YtlplomofgbmgaaaRows
import Derived.WalkKit
import Derived.ProofKit
import Derived.SliceStrings
import Derived.OpenShut
import Derived.ShutString
import Derived.ChangeOld
import Derived.Carry
import Derived.Below

/- The walk of the law of devices that the maker makes, whole and spoilt. -/
namespace Go.Proofs.Ytlplomofgbmgaaa
open Go.RowKit Plan ZnsMath MedMath

set_option maxHeartbeats 2000000 in
set_option maxRecDepth 20000 in
theorem mediaMade_go (a0 : Option Addr) (l0 c0 : Nat) (zs : List Int) (ka : Option Addr) (kl kc : Nat) (ks : List Int) (p1 p2 p3 : Int) (w : World) (h0 : IsRow .i64 w a0 l0 c0 zs) (hk : IsRow .i64 w ka kl kc ks) (hl0 : l0 ≤ 300) (hkl : kl ≤ 40) :
    Calls Try.prog 4 #[.slice a0 l0 c0, .slice ka kl kc, .int .i64 p1, .int .i64 p2, .int .i64 p3] w fun e w' => e = .returned (.bool true) ∧ Below w.heap.size w w' := by
  have hlg := light_any a0 l0 c0 w
  have hdv := device_any a0 l0 c0 zs w h0 hl0
  have hkr := fun W (h : Below w.heap.size w W) => row_keep hk h
  unfold DevMade at hdv
  have e1 : decide ((l0 : Int) ≤ 300) = true := decide_eq_true (by omega)
  rw [e1] at hlg
  have hkI : ¬ (40 : Int) < (kl : Int) := by omega
  have HL := Lib.hid hlg
  have HD := Lib.hid hdv
  have HK := Lib.hid hkr
  clear hlg hdv h0 e1 hk hkr
  go_enter Try.func4, Try.ntmps4
  go_wp2_with (first
    | (go_at_call 9; ((with_reducible refine (HL.out).mono ?_); rintro e w1 ⟨rfl, rfl⟩))
    | (go_at_call 10; ((with_reducible refine (HD.out).mono ?_); rintro e w1 ⟨⟨ds, do', da, DZ⟩, a, n, cap, rfl, hz1, hck, hn2, hn5, hb1⟩; have hx1 := heap_alloc_new w1 (devRow ds do' da a n cap); have b1 := hb1.alloc hb1.size (devRow ds do' da a n cap); have hz1' := hz1.is.on ((Below.refl w1.heap.size w1).alloc (Nat.le_refl _) (devRow ds do' da a n cap)) (Nat.le_refl _); obtain ⟨y1, d0, d1, d2, d3⟩ := row4 hx1))
    | (go_at_call 7; ((with_reducible refine (medAgree_any ⟨ds, do', da, DZ⟩ a n cap ks ka kl kc _ hz1' (HK.out _ b1) (by omega)).mono ?_); rintro e w4 ⟨rfl, hb4⟩; have hx4 := row_on hb4 hx1 (lt_of_block hx1); have b4 := b1.trans (hb4.mono b1.size); have hz4 := hz1'.on hb4 (Nat.le_refl _); clear d0 d1 d2 d3; obtain ⟨y4, d0, d1, d2, d3⟩ := row4 hx4))
    | (go_at_call 11; ((with_reducible refine (odd_any ⟨ds, do', da, DZ⟩ a n cap p1 p2 p3 _ hz4 hck (by omega) (by omega)).mono ?_); rintro e w5 ⟨⟨os, oo, oa, OZ⟩, ao, no, co, rfl, hzo, hb5, hno⟩; have b5 := b4.trans (hb5.mono b4.size)))
    | (go_at_call 7; ((with_reducible refine (medAgree_any ⟨os, oo, oa, OZ⟩ ao no co ks ka kl kc _ hzo (HK.out _ b5) (by omega)).mono ?_); rintro e w6 ⟨rfl, hb6⟩; have b6 := b5.trans (hb6.mono b5.size)))
    | (go_at_call 8; ((with_reducible refine (awake_med _).mono ?_); rintro e w7 ⟨rfl, hb7⟩)))
  go_ret
  exact ⟨rfl, b6.trans (hb7.mono b6.size)⟩
set_option maxHeartbeats 2000000 in
set_option maxRecDepth 20000 in
theorem mediaMade_all (a0 : Option Addr) (l0 c0 : Nat) (zs : List Int) (ka : Option Addr) (kl kc : Nat) (ks : List Int) (p1 p2 p3 : Int) (w : World) (h0 : IsRow .i64 w a0 l0 c0 zs) (hk : IsRow .i64 w ka kl kc ks) :
    Calls Try.prog 4 #[.slice a0 l0 c0, .slice ka kl kc, .int .i64 p1, .int .i64 p2, .int .i64 p3] w fun e w' => e = .returned (.bool true) ∧ Below w.heap.size w w' := by
  by_cases h : l0 ≤ 300 ∧ kl ≤ 40
  · exact mediaMade_go a0 l0 c0 zs ka kl kc ks p1 p2 p3 w h0 hk h.1 h.2
  · have hlg := light_any a0 l0 c0 w
    have HL := Lib.hid hlg
    by_cases h1 : l0 ≤ 300
    · have e1 : decide ((l0 : Int) ≤ 300) = true := decide_eq_true (by omega)
      have hkI : (40 : Int) < (kl : Int) := by omega
      rw [e1] at hlg
      have HL := Lib.hid hlg
      clear hlg h0 hk e1 h
      go_enter Try.func4, Try.ntmps4
      go_wp2_with (first
        | (go_at_call 9; ((with_reducible refine (HL.out).mono ?_); rintro e w1 ⟨rfl, rfl⟩))
        | (go_at_call 8; ((with_reducible refine (awake_med _).mono ?_); rintro e w7 ⟨rfl, hb7⟩)))
      go_ret
      exact ⟨rfl, hb7⟩
    · have e1 : decide ((l0 : Int) ≤ 300) = false := decide_eq_false (by omega)
      rw [e1] at hlg
      have HL := Lib.hid hlg
      clear hlg h0 hk e1 h
      go_enter Try.func4, Try.ntmps4
      go_wp2_with (first
        | (go_at_call 9; ((with_reducible refine (HL.out).mono ?_); rintro e w1 ⟨rfl, rfl⟩))
        | (go_at_call 8; ((with_reducible refine (awake_med _).mono ?_); rintro e w7 ⟨rfl, hb7⟩)))
      go_ret
      exact ⟨rfl, hb7⟩
end Go.Proofs.Ytlplomofgbmgaaa

/- The walk of the law that what is durable is never lost. -/
namespace Go.Proofs.Ytlplomofgbmgaaa
open Go.RowKit Plan ZnsMath MedMath

set_option maxHeartbeats 4000000 in
set_option maxRecDepth 20000 in
theorem mediaKeeps_go (a0 : Option Addr) (l0 c0 : Nat) (zs : List Int) (ka : Option Addr) (kl kc : Nat) (ks : List Int) (ma : Option Addr) (ml mc : Nat) (ms : List Int) (w : World) (h0 : IsRow .i64 w a0 l0 c0 zs) (hk : IsRow .i64 w ka kl kc ks) (hm : IsRow .i64 w ma ml mc ms) (hl0 : l0 ≤ 300) (hsum : ¬ (40 : Int) < wrap64 ((kl : Int) + (ml : Int))) :
    Calls Try.prog 5 #[.slice a0 l0 c0, .slice ka kl kc, .slice ma ml mc] w fun e w' => e = .returned (.bool true) ∧ Below w.heap.size w w' := by
  have hlg := light_any a0 l0 c0 w
  have hdv := device_any a0 l0 c0 zs w h0 hl0
  have hkr := fun W (h : Below w.heap.size w W) => row_keep hk h
  have hmr := fun W (h : Below w.heap.size w W) => row_keep hm h
  unfold DevMade at hdv
  have e1 : decide ((l0 : Int) ≤ 300) = true := decide_eq_true (by omega)
  rw [e1] at hlg
  have HL := Lib.hid hlg
  have HD := Lib.hid hdv
  have HK := Lib.hid hkr
  have HM := Lib.hid hmr
  clear hlg hdv h0 e1 hk hkr hm hmr hl0
  go_enter Try.func5, Try.ntmps5
  go_wp2_with (first
    | (go_at_call 9; ((with_reducible refine (HL.out).mono ?_); rintro e w0 ⟨rfl, rfl⟩))
    | (go_at_call 10; ((with_reducible refine (HD.out).mono ?_); rintro e w1 ⟨⟨ds, do', da, DZ⟩, a1, n, c1, rfl, hz1, hck, hn2, hn5, hb1⟩; have x1_1 := heap_alloc_new w1 (devRow ds do' da a1 n c1); have b1 := hb1.alloc hb1.size (devRow ds do' da a1 n c1); have z1_1 := hz1.is.on ((Below.refl w1.heap.size w1).alloc (Nat.le_refl _) (devRow ds do' da a1 n c1)) (Nat.le_refl _); obtain ⟨AZ, SZ, CZ, hA, hckA, hAA, hS, hckS, hC, hrel⟩ := keeps_all hck (ks.take kl) (ms.take ml); obtain ⟨y1, d0, d1, d2, d3⟩ := row4 x1_1))
    | (go_at_call 12; ((with_reducible refine (crash_is hck a1 n c1 ks ka kl kc _ z1_1 (HK.out _ b1) hA).mono ?_); rintro e w2 ⟨a2, c2, rfl, zn2, hb2⟩; have al2 : Below w2.heap.size w2 (w2.alloc (devRow ds do' da a2 n c2)) := (Below.refl _ _).alloc (Nat.le_refl _) _; have x1_2 := row_on al2 (row_on hb2 x1_1 (lt_of_block x1_1)) (lt_of_block (row_on hb2 x1_1 (lt_of_block x1_1))); have z1_2 := (z1_1.on hb2 (Nat.le_refl _)).on al2 (Nat.le_refl _); have x2_2 := heap_alloc_new w2 (devRow ds do' da a2 n c2); have z2_2 := zn2.on al2 (Nat.le_refl _); have b2 := (b1.trans (hb2.mono b1.size)).alloc (Nat.le_trans b1.size hb2.size) (devRow ds do' da a2 n c2); clear d0 d1 d2 d3; obtain ⟨y2, d0, d1, d2, d3⟩ := row4 x2_2; obtain ⟨f2, f0, f1, f2', f3⟩ := row4 x1_2))
    | (go_at_call 12; ((with_reducible refine (crash_is hckA a2 n c2 ms ma ml mc _ z2_2 (HM.out _ b2) hAA).mono ?_); rintro e w3 ⟨a3, c3, rfl, zn3, hb3⟩; have al3 : Below w3.heap.size w3 (w3.alloc (devRow ds do' da a3 n c3)) := (Below.refl _ _).alloc (Nat.le_refl _) _; have x1_3 := row_on al3 (row_on hb3 x1_2 (lt_of_block x1_2)) (lt_of_block (row_on hb3 x1_2 (lt_of_block x1_2))); have z1_3 := (z1_2.on hb3 (Nat.le_refl _)).on al3 (Nat.le_refl _); have x2_3 := row_on al3 (row_on hb3 x2_2 (lt_of_block x2_2)) (lt_of_block (row_on hb3 x2_2 (lt_of_block x2_2))); have z2_3 := (z2_2.on hb3 (Nat.le_refl _)).on al3 (Nat.le_refl _); have x3_3 := heap_alloc_new w3 (devRow ds do' da a3 n c3); have z3_3 := zn3.on al3 (Nat.le_refl _); have b3 := (b2.trans (hb3.mono b2.size)).alloc (Nat.le_trans b2.size hb3.size) (devRow ds do' da a3 n c3); clear d0 d1 d2 d3 f2 f0 f1 f2' f3; obtain ⟨y3, d0, d1, d2, d3⟩ := row4 x1_3))
    | (go_at_call 13; ((with_reducible refine (sync_is hck a1 n c1 _ z1_3 hS).mono ?_); rintro e w4 ⟨a4, c4, rfl, zn4, hb4⟩; have al4 : Below w4.heap.size w4 (w4.alloc (devRow ds do' da a4 n c4)) := (Below.refl _ _).alloc (Nat.le_refl _) _; have x1_4 := row_on al4 (row_on hb4 x1_3 (lt_of_block x1_3)) (lt_of_block (row_on hb4 x1_3 (lt_of_block x1_3))); have z1_4 := (z1_3.on hb4 (Nat.le_refl _)).on al4 (Nat.le_refl _); have x2_4 := row_on al4 (row_on hb4 x2_3 (lt_of_block x2_3)) (lt_of_block (row_on hb4 x2_3 (lt_of_block x2_3))); have z2_4 := (z2_3.on hb4 (Nat.le_refl _)).on al4 (Nat.le_refl _); have x3_4 := row_on al4 (row_on hb4 x3_3 (lt_of_block x3_3)) (lt_of_block (row_on hb4 x3_3 (lt_of_block x3_3))); have z3_4 := (z3_3.on hb4 (Nat.le_refl _)).on al4 (Nat.le_refl _); have x4_4 := heap_alloc_new w4 (devRow ds do' da a4 n c4); have z4_4 := zn4.on al4 (Nat.le_refl _); have b4 := (b3.trans (hb4.mono b3.size)).alloc (Nat.le_trans b3.size hb4.size) (devRow ds do' da a4 n c4); clear d0 d1 d2 d3; obtain ⟨y4, d0, d1, d2, d3⟩ := row4 x4_4))
    | (go_at_call 12; ((with_reducible refine (crash_is hckS a4 n c4 ks ka kl kc _ z4_4 (HK.out _ b4) hC).mono ?_); rintro e w5 ⟨a5, c5, rfl, zn5, hb5⟩; have al5 : Below w5.heap.size w5 (w5.alloc (devRow ds do' da a5 n c5)) := (Below.refl _ _).alloc (Nat.le_refl _) _; have x1_5 := row_on al5 (row_on hb5 x1_4 (lt_of_block x1_4)) (lt_of_block (row_on hb5 x1_4 (lt_of_block x1_4))); have z1_5 := (z1_4.on hb5 (Nat.le_refl _)).on al5 (Nat.le_refl _); have x2_5 := row_on al5 (row_on hb5 x2_4 (lt_of_block x2_4)) (lt_of_block (row_on hb5 x2_4 (lt_of_block x2_4))); have z2_5 := (z2_4.on hb5 (Nat.le_refl _)).on al5 (Nat.le_refl _); have x3_5 := row_on al5 (row_on hb5 x3_4 (lt_of_block x3_4)) (lt_of_block (row_on hb5 x3_4 (lt_of_block x3_4))); have z3_5 := (z3_4.on hb5 (Nat.le_refl _)).on al5 (Nat.le_refl _); have x5_5 := heap_alloc_new w5 (devRow ds do' da a5 n c5); have z5_5 := zn5.on al5 (Nat.le_refl _); have b5 := (b4.trans (hb5.mono b4.size)).alloc (Nat.le_trans b4.size hb5.size) (devRow ds do' da a5 n c5); clear d0 d1 d2 d3; obtain ⟨y5, d0, d1, d2, d3⟩ := row4 x2_5))
    | (go_at_call 14; ((with_reducible refine (check_is hckA a2 n c2 _ z2_5).mono ?_); rintro e w6 ⟨rfl, hb6⟩; have T6 : Three w w6 w1.heap.size w2.heap.size w5.heap.size ds do' da DZ AZ CZ a1 a2 a5 n c1 c2 c5 := Three.on ⟨x1_5, x2_5, x5_5, z1_5, z2_5, z5_5, b5⟩ hb6; have x3_6 := row_on hb6 x3_5 (lt_of_block x3_5); have z3_6 := z3_5.on hb6 (Nat.le_refl _); clear d0 d1 d2 d3; obtain ⟨y6, d0, d1, d2, d3⟩ := row4 T6.y; obtain ⟨q6, f0, f1, f2, f3⟩ := row4 x3_6))
    | (go_at_call 15; ((with_reducible refine (same_is a2 a3 n c2 c3 _ T6.zy z3_6).mono ?_); rintro e w7 ⟨rfl, hb7⟩; have T7 := T6.on hb7; clear d0 d1 d2 d3 f0 f1 f2 f3; obtain ⟨y7, d0, d1, d2, d3⟩ := row4 T7.x; obtain ⟨q7, f0, f1, f2, f3⟩ := row4 T7.t)))
  have HREL := Lib.hid hrel
  have hlD := T7.zx.length
  have HLD := Lib.hid hlD
  clear hlD x1_1 x1_2 x1_3 x1_4 x1_5 x2_2 x2_3 x2_4 x2_5 x3_3 x3_4 x3_5 x4_4 x5_5 z1_1 z1_2 z1_3 z1_4 z1_5 z2_2 z2_3 z2_4 z2_5 z3_3 z3_4 z3_5 z4_4 z5_5 b1 b2 b3 b4 b5 x3_6 z3_6 T6 hrel hA hAA hS hC hckA hckS hck d0 d1 d2 d3 f0 f1 f2 f3 hb1 hb2 hb3 hb4 hb5 hb6 hb7 y1 y2 y3 y4 y5 y6 q6 y7 q7 al2 al3 al4 al5 zn2 zn3 zn4 zn5 hz1
  generalize w1.heap.size = X at *
  generalize w2.heap.size = Y at *
  generalize w5.heap.size = T at *

  go_loopw [16] (fun v wr => ∃ j : Nat, v = .int .i64 j ∧ j ≤ n ∧ Three w wr X Y T ds do' da DZ AZ CZ a1 a2 a5 n c1 c2 c5) (fun v _ => n - (intOf v).toNat)
  case atStart => exact ⟨0, rfl, by omega, T7⟩
  case round =>
    obtain ⟨j, rfl, hj, T8⟩ := hrel
    clear T7
    by_cases hlt : j < n
    · obtain ⟨x, z, sa, sl, sc, hx, hzk, ⟨p0, p1, p2⟩, hzs⟩ := T8.zx.zone j hlt
      obtain ⟨m, hm1, hm2, ⟨zA, hzA, hsA⟩, zC, hzC, hsC⟩ := HREL.out j z hzk
      obtain ⟨y, zA', ya, yl, yc, hy, hzA', ⟨q0, q1, q2⟩, hys⟩ := T8.zy.zone j hlt
      obtain rfl := Option.some.inj (hzA.symm.trans hzA')
      obtain ⟨t, zC', ta, tl, tc, ht, hzC', ⟨r0, r1, r2⟩, hts⟩ := T8.zt.zone j hlt
      obtain rfl := Option.some.inj (hzC.symm.trans hzC')
      obtain rfl : a1 = some x := hx
      obtain rfl : a2 = some y := hy
      obtain rfl : a5 = some t := ht
      have hsl := hzs.length
      have hyl := hys.length
      have htl := hts.length
      rw [hsA, List.length_take] at hyl
      have hjI : (j : Int) < (n : Int) := by omega
      have g1 : ¬ (yl : Int) < z.durable := by omega
      have g2 : ¬ (sl : Int) < (yl : Int) := by omega
      have g3 : ((tl : Int) != (sl : Int)) = false := by simp; omega
      have hlm := hys.len_le
      have g4 : decide ((yl : Int) < z.durable) = false := decide_eq_false g1
      have g5 : decide ((sl : Int) < (yl : Int)) = false := decide_eq_false g2
      have g6 : decide (sl < yl) = false := decide_eq_false (by omega)
      have g7 : (tl != sl) = false := by simp; omega
      clear g1 g2
      obtain ⟨v0, d0, d1, d2, d3⟩ := row4 T8.x
      obtain ⟨v1, e0, e1, e2, e3⟩ := row4 T8.y
      obtain ⟨v2, f0, f1, f2, f3⟩ := row4 T8.t
      go_wp2_with fail
      refine Plan.start (fun W => W.cell? ⟨X, 3, none⟩ = some (.slice (some x) n c1) ∧ W.cell? ⟨T, 3, none⟩ = some (.slice (some t) n c5) ∧ W.cell? ⟨(x.add (j * 3)).block, (x.add (j * 3)).off + 1, none⟩ = some (.int .i64 z.durable) ∧ W.cell? ⟨(x.add (j * 3)).block, (x.add (j * 3)).off + 2, none⟩ = some (.slice sa sl sc) ∧ W.cell? ⟨(t.add (j * 3)).block, (t.add (j * 3)).off + 2, none⟩ = some (.slice ta tl tc)) [(0, true), (1, true), (2, true), (3, true), (4, true), (5, true), (6, true), (7, true), (8, true), (9, true), (10, true), (11, true), (12, true), (13, true), (14, true), (15, true), (16, true), (17, true), (18, true), (19, true), (20, true), (21, true), (22, true), (23, true), (24, true), (25, true), (26, true), (27, true), (28, true), (29, true), (30, true), (31, true), (32, true), (33, true), (34, true), (35, true)] (by kernel_rfl) (by kernel_rfl) (by kernel_rfl) (by kernel_rfl) ⟨d3, f3, p1, p2, r2⟩ ?_
      simp only [List.map_cons, List.map_nil, List.getElem?_toArray, List.getElem?_cons_zero, List.getElem?_cons_succ]
      repeat (first | (refine Plan.take ?_ (by rfl) ?_ ?_; rotate_left; (· rintro w9 ⟨u0, u1, u2, u3, u4⟩; go_simp; (try rw [if_neg (by omega)]); all_goals (with_reducible rfl)); simp only [Act.put, List.setIfInBounds_toArray, List.set_cons_zero, List.set_cons_succ]) | (refine Plan.pass (by rfl) ?_; simp only [Act.put, List.setIfInBounds_toArray, List.set_cons_zero, List.set_cons_succ]))
      refine Plan.ends ?_
      have T9 := T8.drew
      clear T8 d0 d1 d2 d3 e0 e1 e2 e3 f0 f1 f2 f3 p0 p1 p2 q0 q1 q2 r0 r1 r2 hzs hys hts v0 v1 v2
      generalize wr.drew = wq at T9 ⊢
      go_wp2_with fail
      go_loopw [18] (fun v wp => ∃ k : Nat, v = .int .i64 k ∧ k ≤ yl ∧ Three w wp X Y T ds do' da DZ AZ CZ (some x) (some y) (some t) n c1 c2 c5) (fun v _ => yl - (intOf v).toNat)
      case atStart => exact ⟨0, rfl, by omega, T9⟩
      case round =>
        obtain ⟨k, rfl, hk, T10⟩ := hrel
        clear T9
        by_cases hky : k < yl
        · have hkI : (k : Int) < (yl : Int) := by omega
          have hksI : (k : Int) < (sl : Int) := by omega
          obtain ⟨x', z', sa, sl', sc, hx', hzk', ⟨p0, p1, p2⟩, hzs⟩ := T10.zx.zone j hlt
          obtain rfl : x = x' := Option.some.inj hx'
          obtain rfl := Option.some.inj (hzk.symm.trans hzk')
          obtain ⟨y', zB, ya, yl', yc, hy', hzB, ⟨q0, q1, q2⟩, hys⟩ := T10.zy.zone j hlt
          obtain rfl : y = y' := Option.some.inj hy'
          obtain rfl := Option.some.inj (hzA.symm.trans hzB)
          have hsl2 := hzs.length
          have hyl2 := hys.length
          rw [hsA, List.length_take] at hyl2
          obtain rfl : sl = sl' := by omega
          obtain rfl : yl = yl' := by omega
          obtain ⟨st, hst⟩ : ∃ st, z.sectors[k]? = some st := ⟨_, List.getElem?_eq_getElem (by omega)⟩
          obtain ⟨xs, rfl, hcs⟩ := hzs.some (by omega)
          obtain ⟨ys, rfl, hcy⟩ := hys.some (by omega)
          have hc1 := (hcs k st hst).1
          have hc2 := (hcy k st (by rw [hsA, List.getElem?_take, if_pos (by omega)]; exact hst)).1
          obtain ⟨v0, d0, d1, d2, d3⟩ := row4 T10.x
          obtain ⟨v1, e0, e1, e2, e3⟩ := row4 T10.y
          have hne : (st.toList != st.toList) = false := by simp
          go_wp2_with fail
          refine Plan.start (fun W => W.cell? ⟨X, 3, none⟩ = some (.slice (some x) n c1) ∧ W.cell? ⟨Y, 3, none⟩ = some (.slice (some y) n c2) ∧ W.cell? ⟨(x.add (j * 3)).block, (x.add (j * 3)).off + 2, none⟩ = some (.slice (some xs) sl sc) ∧ W.cell? ⟨(y.add (j * 3)).block, (y.add (j * 3)).off + 2, none⟩ = some (.slice (some ys) yl yc) ∧ W.cell? (xs.add k) = some (.string st) ∧ W.cell? (ys.add k) = some (.string st)) [(0, true), (1, true), (2, true), (3, true), (4, true), (5, true), (6, true), (7, true), (8, true), (9, true), (10, true), (11, true), (12, true), (13, true), (14, true), (15, true), (16, true), (17, true), (18, true)] (by kernel_rfl) (by kernel_rfl) (by kernel_rfl) (by kernel_rfl) ⟨d3, e3, p2, q2, hc1, hc2⟩ ?_
          simp only [List.map_cons, List.map_nil, List.getElem?_toArray, List.getElem?_cons_zero, List.getElem?_cons_succ]
          repeat (first | (refine Plan.take ?_ (by rfl) ?_ ?_; rotate_left; (· rintro w9 ⟨u0, u1, u2, u3, u4, u5⟩; go_simp; (try rw [if_neg (by omega)]); all_goals (with_reducible rfl)); simp only [Act.put, List.setIfInBounds_toArray, List.set_cons_zero, List.set_cons_succ]) | (refine Plan.pass (by rfl) ?_; simp only [Act.put, List.setIfInBounds_toArray, List.set_cons_zero, List.set_cons_succ]))
          refine Plan.ends ?_
          have T11 := T10.drew
          clear T10 d0 d1 d2 d3 e0 e1 e2 e3 p0 p1 p2 q0 q1 q2 hzs hys v0 v1 hc1 hc2 hcs hcy
          generalize wr.drew = wo at T11 ⊢
          go_wp2_with fail
          go_roundw
          case rel => exact ⟨k + 1, by go_num, by omega, T11⟩
          case measure => simp [intOf]; omega
        · obtain rfl : k = yl := by omega
          go_wp2_with fail
          go_roundw
          case rel => exact ⟨j + 1, by go_num, by omega, T10⟩
          case measure => simp [intOf]; omega
    · obtain rfl : j = n := by omega
      obtain ⟨v0, d0, d1, d2, d3⟩ := row4 T8.x
      have b8 := T8.b
      go_wp2_with (first
        | (go_at_call 8; ((with_reducible refine (awake_med _).mono ?_); rintro e w9 ⟨rfl, hb9⟩)))
      go_ret
      exact ⟨rfl, b8.trans (hb9.mono b8.size)⟩
end Go.Proofs.Ytlplomofgbmgaaa

/- The walk of the law that what is durable is never lost, where it says nothing, and whole. -/
namespace Go.Proofs.Ytlplomofgbmgaaa
open Go.RowKit Plan ZnsMath MedMath

set_option maxHeartbeats 2000000 in
set_option maxRecDepth 20000 in
theorem mediaKeeps_all (a0 : Option Addr) (l0 c0 : Nat) (zs : List Int) (ka : Option Addr) (kl kc : Nat) (ks : List Int) (ma : Option Addr) (ml mc : Nat) (ms : List Int) (w : World) (h0 : IsRow .i64 w a0 l0 c0 zs) (hk : IsRow .i64 w ka kl kc ks) (hm : IsRow .i64 w ma ml mc ms) :
    Calls Try.prog 5 #[.slice a0 l0 c0, .slice ka kl kc, .slice ma ml mc] w fun e w' => e = .returned (.bool true) ∧ Below w.heap.size w w' := by
  by_cases h1 : l0 ≤ 300
  · by_cases h2 : (40 : Int) < wrap64 ((kl : Int) + (ml : Int))
    · have hlg := light_any a0 l0 c0 w
      have e1 : decide ((l0 : Int) ≤ 300) = true := decide_eq_true (by omega)
      rw [e1] at hlg
      have HL := Lib.hid hlg
      clear hlg h0 hk hm e1 h1
      go_enter Try.func5, Try.ntmps5
      go_wp2_with (first
        | (go_at_call 9; ((with_reducible refine (HL.out).mono ?_); rintro e w1 ⟨rfl, rfl⟩))
        | (go_at_call 8; ((with_reducible refine (awake_med _).mono ?_); rintro e w7 ⟨rfl, hb7⟩)))
      go_ret
      exact ⟨rfl, hb7⟩
    · exact mediaKeeps_go a0 l0 c0 zs ka kl kc ks ma ml mc ms w h0 hk hm h1 h2
  · have hlg := light_any a0 l0 c0 w
    have e1 : decide ((l0 : Int) ≤ 300) = false := decide_eq_false (by omega)
    rw [e1] at hlg
    have HL := Lib.hid hlg
    clear hlg h0 hk hm e1 h1
    go_enter Try.func5, Try.ntmps5
    go_wp2_with (first
      | (go_at_call 9; ((with_reducible refine (HL.out).mono ?_); rintro e w1 ⟨rfl, rfl⟩))
      | (go_at_call 8; ((with_reducible refine (awake_med _).mono ?_); rintro e w7 ⟨rfl, hb7⟩)))
    go_ret
    exact ⟨rfl, hb7⟩
end Go.Proofs.Ytlplomofgbmgaaa

/- MediaKeeps: what is durable is never lost in a power failure, what stays is the beginning of what was there, behind a flush nothing is lost, and a second failure changes nothing. No condition. -/
namespace Go.Proofs.Ytlplomofgbmgaaa.mediaKeeps
open Go.ChangeShapes Go.WideShapes Go.ChangeAt Go.RowKit
open Go.ChangeMaps (open_string shut_string)
set_option linter.unusedVariables false

theorem own : ownKnob Try.prog.godebug = none := by kernel_rfl
theorem laidOut : laidOutB Try.prog = true := by kernel_rfl

theorem walk (a0 : Option Addr) (l0 c0 : Nat) (z0 : List Int) (a1 : Option Addr) (l1 c1 : Nat) (z1 : List Int) (a2 : Option Addr) (l2 c2 : Nat) (z2 : List Int) (w : World) (w0 : IsRow .i64 w a0 l0 c0 z0) (w1 : IsRow .i64 w a1 l1 c1 z1) (w2 : IsRow .i64 w a2 l2 c2 z2) :
    Calls Try.prog 5 #[.slice a0 l0 c0, .slice a1 l1 c1, .slice a2 l2 c2] w fun e w' => e = .returned (.bool true) ∧ Below w.heap.size w w' := by
  exact mediaKeeps_all a0 l0 c0 z0 a1 l1 c1 z1 a2 l2 c2 z2 w w0 w1 w2

set_option maxRecDepth 100000 in
theorem lifted (os : Os) (started : os.Started) (H : Type) (enc : TypeId × Value → H) :
    ReturnsInHanded {} Try.checked os 5 .any (Rows.mediaKeepsSpec.pre6 enc Try.prog Try.f5 Rows.mediaKeepsRow.domain false) (Rows.mediaKeepsSpec.post enc Try.prog Try.f5 false true false false) := by
  refine returnsInHanded_of_change (C := Try.checked) own started (by kernel_rfl) Try.func5
    (ChangeSpec.witness6 (enc := enc) (C := Try.checked) false ⟨#[], #[.slice none 0 0, .slice none 0 0, .slice none 0 0], []⟩ 8 (by kernel_rfl) (by kernel_rfl) (by kernel_rfl) (by kernel_rfl)) ?_
  intro W base args ds gs before hval0 hW hcnd _
  have hval : ∀ (j : Nat) t v, Try.f5.params[j]? = some t → args[j]? = some v → Value.okWide Try.prog W .any base t v := hval0
  have hW' := hW
  obtain ⟨p, q, hA0, hV, rfl, hfz, hnd⟩ := hW
  have hA : DataW.TrodAll enc Try.prog W 0 (fun _ => true) true Try.f5.params.toList args.toList ds p := hA0
  rw [Try.params5] at hA hval
  obtain ⟨v0, vs0, d0, ds0, p0, q0, hargs, rfl, rfl, h0, r0⟩ := trodAll_cons hA
  obtain ⟨v1, vs1, d1, ds1, p1, q1, rfl, rfl, rfl, h1, r1⟩ := trodAll_cons r0
  obtain ⟨v2, vs2, d2, ds2, p2, q2, rfl, rfl, rfl, h2, r2⟩ := trodAll_cons r1
  obtain ⟨rfl, rfl, rfl⟩ := trodAll_nil r2
  obtain rfl : args = #[v0, v1, v2] := by cases args; simp_all
  obtain ⟨rfl, rfl⟩ := trodVars_none hV
  have k0' := h0
  have lt0 : ∀ x ∈ p0, x.block < W.heap.size := by obtain ⟨m, hm⟩ := h0; exact DataW.trod_lt m _ _ _ hm
  have k1' := h1
  have lt1 : ∀ x ∈ p1, x.block < W.heap.size := by obtain ⟨m, hm⟩ := h1; exact DataW.trod_lt m _ _ _ hm
  have k2' := h2
  have lt2 : ∀ x ∈ p2, x.block < W.heap.size := by obtain ⟨m, hm⟩ := h2; exact DataW.trod_lt m _ _ _ hm
  obtain ⟨a0, l0, c0, rfl⟩ := okWide_slice Try.underlying25 (hval 0 25 v0 rfl rfl)
  obtain ⟨z0, w0⟩ : ∃ zs, IsRow .i64 W a0 l0 c0 zs := by
    obtain ⟨fuel, hf⟩ := h0
    rcases open_ints Try.underlying25 Try.underlying3 (by kernel_rfl) hf with ⟨hcs, _⟩ | ⟨x, l, c, zs, hcs, _, hl, hm, hz, _, hcell, hwz⟩
    · simp [Value.cells] at hcs
      obtain ⟨rfl, rfl, rfl⟩ := hcs
      exact ⟨[], .inl ⟨rfl, rfl, rfl, rfl⟩⟩
    · simp [Value.cells] at hcs
      obtain ⟨rfl, rfl, rfl⟩ := hcs
      exact ⟨zs, .inr ⟨_, rfl, hl, hm, by simpa using hz, hcell, hwz⟩⟩
  obtain ⟨a1, l1, c1, rfl⟩ := okWide_slice Try.underlying25 (hval 1 25 v1 rfl rfl)
  obtain ⟨z1, w1⟩ : ∃ zs, IsRow .i64 W a1 l1 c1 zs := by
    obtain ⟨fuel, hf⟩ := h1
    rcases open_ints Try.underlying25 Try.underlying3 (by kernel_rfl) hf with ⟨hcs, _⟩ | ⟨x, l, c, zs, hcs, _, hl, hm, hz, _, hcell, hwz⟩
    · simp [Value.cells] at hcs
      obtain ⟨rfl, rfl, rfl⟩ := hcs
      exact ⟨[], .inl ⟨rfl, rfl, rfl, rfl⟩⟩
    · simp [Value.cells] at hcs
      obtain ⟨rfl, rfl, rfl⟩ := hcs
      exact ⟨zs, .inr ⟨_, rfl, hl, hm, by simpa using hz, hcell, hwz⟩⟩
  obtain ⟨a2, l2, c2, rfl⟩ := okWide_slice Try.underlying25 (hval 2 25 v2 rfl rfl)
  obtain ⟨z2, w2⟩ : ∃ zs, IsRow .i64 W a2 l2 c2 zs := by
    obtain ⟨fuel, hf⟩ := h2
    rcases open_ints Try.underlying25 Try.underlying3 (by kernel_rfl) hf with ⟨hcs, _⟩ | ⟨x, l, c, zs, hcs, _, hl, hm, hz, _, hcell, hwz⟩
    · simp [Value.cells] at hcs
      obtain ⟨rfl, rfl, rfl⟩ := hcs
      exact ⟨[], .inl ⟨rfl, rfl, rfl, rfl⟩⟩
    · simp [Value.cells] at hcs
      obtain ⟨rfl, rfl, rfl⟩ := hcs
      exact ⟨zs, .inr ⟨_, rfl, hl, hm, by simpa using hz, hcell, hwz⟩⟩
  clear hA0 hval0
  refine (walk a0 l0 c0 z0 a1 l1 c1 z1 a2 l2 c2 z2 W w0 w1 w2).mono fun e W' ⟨he, bel⟩ => ?_
  subst he
  exact ⟨_, rfl, _, _, _, [], _, [], hW', trodAll_mk1 (shut_bool Try.underlying4 _), (trodAll_cons_mk (Below.trod laidOut (by kernel_rfl) (of_decide_eq_true (by kernel_rfl)) k0' bel lt0) (trodAll_cons_mk (Below.trod laidOut (by kernel_rfl) (of_decide_eq_true (by kernel_rfl)) k1' bel lt1) (trodAll_cons_mk (Below.trod laidOut (by kernel_rfl) (of_decide_eq_true (by kernel_rfl)) k2' bel lt2) trodAll_mk0))), rfl, bel.frame _, fun h => by cases h⟩

theorem over : Rows.mediaKeepsRow.holds Try.pinned (OpenSpec.ofChange Rows.mediaKeepsSpec) :=
  OpenClaim.holds_of_wide 5 Try.f5 rfl rfl rfl rfl rfl rfl rfl ⟨rfl, rfl, rfl, rfl, rfl⟩ rfl rfl rfl rfl rfl (by kernel_rfl) Try.func5 (by kernel_rfl)
    (of_decide_eq_true (by kernel_rfl)) (by unfold Func.isWrapper; first | (rw [if_pos (by decide +kernel)]; kernel_rfl) | (rw [if_neg (by decide +kernel)]; exact ⟨rfl, rfl⟩))
    (fun os started H enc _ => lifted os started H enc)
end Go.Proofs.Ytlplomofgbmgaaa.mediaKeeps

namespace Go.Proofs.Ytlplomofgbmgaaa
theorem mediaKeeps_holds : Rows.MediaKeepsSaid := mediaKeeps.over
end Go.Proofs.Ytlplomofgbmgaaa
