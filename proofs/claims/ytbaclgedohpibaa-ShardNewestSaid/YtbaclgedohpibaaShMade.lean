
/- The walk of ShardMade, under the program's contracts. -/
import Derived.Test.YtbaclgedohpibaaShDrops
import Derived.Test.YtbaclgedohpibaaShPReloc
import Derived.Test.YtbaclgedohpibaaBaseStore
namespace Go.Proofs.Ytbaclgedohpibaa.Ents
open Go.RowKit Plan EntMath
/-- where a round of the law stands: a list that lies between B and N, the dice ahead of B -/
structure Sit (W W0 : World) (B N base g : Nat) (L : List Int) (k : Nat) (a : Option Addr) (n c : Nat) (S : List Ent) : Prop where
  l : EList W (fun b => B ≤ b ∧ b < N) a n c S
  d : Dice W base g L k
  s : N ≤ W.heap.size
  b : Below base W0 W
section
variable {W W0 : World} {B N base g : Nat} {L : List Int} {k n c : Nat} {a : Option Addr} {S : List Ent}
theorem Sit.on (h : Sit W W0 B N base g L k a n c S) {W' : World} (hb : Below W.heap.size W W') : Sit W' W0 B N base g L k a n c S :=
  ⟨h.l.on (Same.below hb), dice_on h.d hb (Nat.le_refl _), Nat.le_trans h.s hb.size, h.b.trans (hb.mono (Nat.le_trans (dice_base h.d) (Nat.le_of_lt (dice_lt h.d))))⟩
theorem Sit.al (h : Sit W W0 B N base g L k a n c S) (o : Obj) : Sit (W.alloc o) W0 B N base g L k a n c S := h.on ((Below.refl _ _).alloc (Nat.le_refl _) o)
theorem Sit.next (h : Sit W W0 B N base g L k a n c S) (hg : g < B) {W' : World} {k' : Nat} (hd : Dice W' base g L k') (hw : W.grownBy W' (some g)) : Sit W' W0 B N base g L k' a n c S :=
  ⟨h.l.on (Same.grown hw (fun h9 => by have := h9.1; omega)), hd, Nat.le_trans h.s hw.size, e_below h.b hw (dice_base hd) (Nat.le_trans (dice_base h.d) (Nat.le_of_lt (dice_lt h.d)))⟩
theorem Sit.row (h : Sit W W0 B N base g L k a n c S) (hg : g < N) {r : Nat} (hr : N ≤ r) (cs : Array Value) : Sit (W.setRow r cs) W0 B N base g L k a n c S :=
  ⟨h.l.on (Same.row (r := r) (fun h9 => by have := h9.2; omega) cs), dice_far h.d (sm_setRow W r cs) (by omega), by have := h.s; simpa [World.setRow] using this, below_setRow h.b (by have := dice_base h.d; omega) cs⟩
theorem Sit.from' (h : Sit W W0 B N base g L k a n c S) : EList W (From B) a n c S := h.l.mono fun _ _ h9 => h9.1
end
theorem next_three (N : Int) : ((N == 0) = true) ∨ ((N == 0) = false ∧ (N == 1) = true) ∨ ((N == 0) = false ∧ (N == 1) = false) := by cases N == 0 <;> cases N == 1 <;> simp
theorem next_two (N : Int) : ((N == 0) = true) ∨ ((N == 0) = false) := by cases N == 0 <;> simp
set_option maxHeartbeats 16000000 in
set_option maxRecDepth 20000 in
theorem shMade_any (H : ShardOk) (a : Option Addr) (len cap : Nat) (zs : List Int) (w : World) (hrow : IsRow .i64 w a len cap zs) :
    Calls Try.prog 4 #[.slice a len cap] w fun r w' => r = .returned (.bool true) ∧ Below w.heap.size w w' := by
  have hli := light_any a len cap w
  by_cases hlen : (len : Int) ≤ 300
  · rw [decide_eq_true hlen] at hli
    have hro := roll_any a len cap zs w hrow (by omega)
    have hzl : (zs.take len).length ≤ 100000 := by rw [List.length_take]; omega
    generalize zs.take len = L at hro hzl
    unfold RollPost at hro
    have HR := Lib.hid hro
    have HLI := Lib.hid hli
    clear hro hli
    go_enter Try.func4, Try.ntmps4
    go_wp2_with (first
      | (go_at_call 10; ((with_reducible refine HLI.out.mono ?_); rintro e w0 ⟨rfl, rfl⟩))
      | (go_at_call 11; ((with_reducible refine HR.out.mono ?_); rintro e w1 ⟨g, rfl, hd1, hb1⟩)))
    have hgB := dice_lt hd1
    have hgb := dice_base hd1
    have hs1 := hb1.size
    obtain ⟨B, hB⟩ : ∃ B, B = w1.heap.size := ⟨_, rfl⟩
    have sB : B ≤ w1.heap.size := Nat.le_of_eq hB
    rw [← hB] at hgB hs1
    clear hB
    go_loopw [4, 5] (fun v c wr => ∃ (j k : Nat) (S : List Ent) (a : Option Addr) (n d : Nat), c = .int .i64 (j : Int) ∧ j ≤ 30 ∧ v = .slice a n d ∧ EList wr (From B) a n d S ∧ validB S = true ∧ n ≤ j ∧ k ≤ 12 * j ∧ Dice wr w.heap.size g L k ∧ B ≤ wr.heap.size ∧ Below w.heap.size w wr) (fun _ c _ => 30 - (intOf c).toNat)
    case atStart => exact ⟨0, 0, [], none, 0, 0, rfl, by omega, rfl, EList.nil _ _, rfl, by omega, by omega, hd1, sB, hb1⟩
    case round =>
      obtain ⟨j, k, S, sa, n, d, rfl, hj, rfl, hl, hv, hn, hk, hd, hs, hb⟩ := hrel
      have hn4 : n ≤ 1000 := by omega
      have HV := Lib.hid hv
      by_cases hlt : j < 30
      · have hjI : (j : Int) < 30 := by omega
        have hrs := rest_dice wr w.heap.size g L k hd hzl (by omega)
        have hk6 := stp6_le L k
        rcases rest_cases L.length k with hz | hz
        · rw [hz] at hrs
          have b4 := hb.drew
          have HRS := Lib.hid hrs
          clear hrs hd hl hb hz hk6 hv
          go_wp2_with (first
            | (go_at_call 12; ((with_reducible refine HRS.out.mono ?_); rintro r9 w2 ⟨rfl, rfl⟩))
            | (go_at_call 9; ((with_reducible refine (shAwake_any H _).mono ?_); rintro r9 w99 ⟨rfl, h99⟩)))
          go_ret
          exact ⟨rfl, b4.trans (h99.mono b4.size)⟩
        · generalize max (0 : Int) ((L.length : Int) - (k : Int)) = R at hz hrs
          have hN : wr.heap.size ≤ wr.drew.heap.size := Nat.le_refl _
          have S4 : Sit wr.drew w B wr.heap.size w.heap.size g L k sa n d S := ⟨(show EList wr.drew (From B) sa n d S from hl.on ⟨Nat.le_refl _, fun _ _ _ => rfl⟩).cut, dice_drew hd, Nat.le_refl _, hb.drew⟩
          have HRS := Lib.hid hrs
          have hgN : g < wr.heap.size := by omega
          have hBN0 : B ≤ wr.heap.size := hs
          clear hrs hd hl hb hN
          generalize wr.heap.size = N at *
          generalize wr.drew = wd at *
          go_wp2_with (first
            | (go_at_call 12; ((with_reducible refine HRS.out.mono ?_); rintro r9 w2 ⟨rfl, rfl⟩))
            | (go_at_call 13; ((with_reducible refine (rolled_any _ _ _ _ _ S4.d hzl).mono ?_); rintro r9 w3 ⟨eb, ek, ev, em, ez, eo, rfl, ok3, q2, q3, q4, hd3, hg3⟩; clear ok3 q2 q3 q4; have S3 := S4.next hgB hd3 hg3; have s3 := S3.s; have S5 := (S3.al (entRow eb ek ev em ez eo)).al (placeRow ez eo); have e5 := heap_first w3 (entRow eb ek ev em ez eo) (placeRow ez eo); have p5 := heap_second w3 (entRow eb ek ev em ez eo) (placeRow ez eo)))
            | (go_at_call 14; ((with_reducible refine (ref_find eb _ S5.from' HV.out).mono ?_); rintro r9 w5 (⟨xb, xk, xv, xm, xz, xo, hx, rfl, h5⟩ | ⟨hx, rfl, h5⟩) <;> (first | (have hx9 : lookE S eb = some ⟨xb, xk, xv, xm, xz, xo⟩ := hx; clear hx; have S6 := (S5.on h5).al (entRow xb xk xv xm xz xo); have e6 := e_al (e_on h5 e5 (e_lt e5)) (entRow xb xk xv xm xz xo); have p6 := e_al (e_on h5 p5 (e_lt p5)) (entRow xb xk xv xm xz xo); have x6 := heap_alloc_new w5 (entRow xb xk xv xm xz xo); have x6lt : w3.heap.size + 2 ≤ w5.heap.size := by have h8 := h5.size; simp only [World.size_alloc] at h8; omega) | (clear hx; have S6 := (S5.on h5).al (entRow 0 0 0 0 0 0); have e6 := e_al (e_on h5 e5 (e_lt e5)) (entRow 0 0 0 0 0 0); have p6 := e_al (e_on h5 p5 (e_lt p5)) (entRow 0 0 0 0 0 0)))))
            | (go_at_call 15; ((with_reducible refine (next_any _ _ _ _ _ 2 S6.d hzl (by decide) (by decide)).mono ?_); rintro r9 w7 ⟨rfl, hd7, hg7, hs7⟩; have S7 := S6.next hgB hd7 hg7; generalize nxt L (stp6 L k) 2 = N2 at *; rcases next_two N2 with t2 | t2)))
          · have xv1 := (ok_iff.1 ((valid_iff.1 HV.out).1 _ (look_mem hx9))).2.1
            have xv2 := (ok_iff.1 ((valid_iff.1 HV.out).1 _ (look_mem hx9))).2.2.1
            try simp only at xv1 xv2
            have nr := nxt_range L (stp L (stp6 L k)) 3 (by decide)
            have hw5 := x6lt
            have e7 := ent_row_grown hg7 e6 (by omega)
            have p7 := ent_row_grown hg7 p6 (by omega)
            have x7 := ent_row_grown hg7 x6 (by omega)
            have HNX := Lib.hid (fun W (s : Sit W w B N w.heap.size g L (stp L (stp6 L k)) sa n d S) => next_any W w.heap.size g L _ 3 s.d hzl (by decide) (by decide))
            unfold NextPost at HNX
            generalize nxt L (stp L (stp6 L k)) 3 = N3 at *
            have wr1 : IntKind.i64.wrap (xv + N3) = xv + N3 := IntWalk.i64_in _ (by omega)
            have wr2 : IntKind.i64.wrap (xv + N3 - 1) = xv + N3 - 1 := IntWalk.i64_in _ (by omega)
            have S8 : Sit w7.drew w B N w.heap.size g L (stp L (stp6 L k)) sa n d S := ⟨S7.l.on ⟨Nat.le_refl _, fun _ _ _ => rfl⟩, dice_drew S7.d, S7.s, S7.b.drew⟩
            refine Plan.start (fun W => Six W w5.heap.size xb xk xv xm xz xo) [(0, true), (1, true), (2, true), (3, true), (4, true), (5, false), (6, true), (7, true), (8, false), (9, true), (10, false)] (by kernel_rfl) (by kernel_rfl) (by kernel_rfl) (by kernel_rfl) (entry_row x7) ?_
            simp only [List.map_cons, List.map_nil, List.getElem?_toArray, List.getElem?_cons_zero, List.getElem?_cons_succ]
            repeat (first | (refine Plan.take ?_ (by rfl) ?_ ?_; rotate_left; (· rintro w9 ⟨u0, u1, u2, u3, u4, u5⟩; go_simp; (try rw [if_neg (by omega)]); all_goals (with_reducible rfl)); simp only [Act.put, List.setIfInBounds_toArray, List.set_cons_zero, List.set_cons_succ]) | (refine Plan.pass (by rfl) ?_; simp only [Act.put, List.setIfInBounds_toArray, List.set_cons_zero, List.set_cons_succ]))
            refine Plan.call (by rfl) 15 _ ?_ (HNX.out _ S8) ?_
            · go_simp
            rintro r9 w8 ⟨rfl, hd8, hg8, hs8⟩
            have S9 := S8.next hgB hd8 hg8
            have e8 := ent_row_grown hg8 (show w7.drew.heap[w3.heap.size]? = _ from e7) (by omega)
            have p8 := ent_row_grown hg8 (show w7.drew.heap[w3.heap.size + 1]? = _ from p7) (by omega)
            have x8 := ent_row_grown hg8 (show w7.drew.heap[w5.heap.size]? = _ from x7) (by omega)
            refine ⟨_, rfl, entry_row x8, ?_⟩
            simp only [Act.put, List.setIfInBounds_toArray, List.set_cons_zero, List.set_cons_succ]
            repeat (first | (refine Plan.take ?_ (by rfl) ?_ ?_; rotate_left; (· rintro w9 ⟨u0, u1, u2, u3, u4, u5⟩; go_simp; (try rw [if_neg (by omega)]); all_goals (with_reducible rfl)); simp only [Act.put, List.setIfInBounds_toArray, List.set_cons_zero, List.set_cons_succ]) | (refine Plan.pass (by rfl) ?_; simp only [Act.put, List.setIfInBounds_toArray, List.set_cons_zero, List.set_cons_succ]))
            have e9 := (setRow_other w8 (w3.heap.size + 1) w3.heap.size #[.int .i64 xz, .int .i64 xo] (by omega)).trans e8
            have p9 := setRow_heap w8 (w3.heap.size + 1) _ #[.int .i64 xz, .int .i64 xo] _ _ p8
            have x9 := (setRow_other w8 (w3.heap.size + 1) w5.heap.size #[.int .i64 xz, .int .i64 xo] (by omega)).trans x8
            have S10 := S9.row hgN (r := w3.heap.size + 1) (by omega) #[.int .i64 xz, .int .i64 xo]
            refine Plan.store (by rfl) 24 (.tmp 7) (.tmp 43) rfl (w3.heap.size + 1) #[.int .i64 xz, .int .i64 xo] rfl rfl 24 _ p8 place_info rfl (by simp [Value.oneCell']) (entry_row x9) ?_
            simp only [Act.put]
            repeat (first | (refine Plan.take ?_ (by rfl) ?_ ?_; rotate_left; (· rintro w9 ⟨u0, u1, u2, u3, u4, u5⟩; go_simp; (try rw [if_neg (by omega)]); all_goals (with_reducible rfl)); simp only [Act.put, List.setIfInBounds_toArray, List.set_cons_zero, List.set_cons_succ]) | (refine Plan.pass (by rfl) ?_; simp only [Act.put, List.setIfInBounds_toArray, List.set_cons_zero, List.set_cons_succ]))
            generalize w8.setRow (w3.heap.size + 1) #[.int .i64 xz, .int .i64 xo] = w9 at *
            have e10 := sc_row (j := 2) (u := .int .i64 (xv + N3 - 1)) e9
            have p10 := (Below.heap_setCell w9 ⟨w3.heap.size, 2, none⟩ (.int .i64 (xv + N3 - 1)) (w3.heap.size + 1) (by show w3.heap.size + 1 ≠ w3.heap.size; omega)).trans p9
            have x10 := (Below.heap_setCell w9 ⟨w3.heap.size, 2, none⟩ (.int .i64 (xv + N3 - 1)) w5.heap.size (by show w5.heap.size ≠ w3.heap.size; omega)).trans x9
            have S11 := S10.row hgN (r := w3.heap.size) (by omega) #[.int .i64 eb, .int .i64 ek, .int .i64 (xv + N3 - 1), .int .i64 em, .int .i64 ez, .int .i64 eo]
            rw [show (#[(.int .i64 eb : Value), .int .i64 ek, .int .i64 (xv + N3 - 1), .int .i64 em, .int .i64 ez, .int .i64 eo] : Array Value) = (#[(.int .i64 eb : Value), .int .i64 ek, .int .i64 ev, .int .i64 em, .int .i64 ez, .int .i64 eo] : Array Value).setIfInBounds 2 (.int .i64 (xv + N3 - 1)) from rfl, ← setCell_eq_setRow w9 w3.heap.size 2 _ _ _ (.int .i64 (xv + N3 - 1)) e9] at S11
            obtain ⟨m0, m1, m2, m3, m4, m5⟩ := entry_row e9
            have fr2 := e_free e9 2
            refine Plan.carry (by rfl) (Put.wp_store_int 3 _ _ rfl w3.heap.size 2 .i64 (xv + N3 - 1) (by rfl) (by rfl) ⟨_, m2⟩ fr2 Put.int_info1 ⟨entry_row x10, ?_⟩)
            simp only [Act.put]
            refine Plan.ends ?_
            generalize w9.setCell ⟨w3.heap.size, 2, none⟩ (.int .i64 (xv + N3 - 1)) = WQ at *
            obtain ⟨K, hK, hKQ⟩ : ∃ K, K = stp L (stp L (stp6 L k)) ∧ K ≤ 12 * j + 8 := ⟨_, rfl, by have h1 := stp_le L (stp L (stp6 L k)); have h2 := stp_le L (stp6 L k); omega⟩
            rw [← hK] at S11
            have sQ := S11
            have eQ := e10
            have pQ := p10
            rw [show ((#[(.int .i64 eb : Value), .int .i64 ek, .int .i64 ev, .int .i64 em, .int .i64 ez, .int .i64 eo] : Array Value).setIfInBounds 2 (.int .i64 (xv + N3 - 1))) = #[.int .i64 eb, .int .i64 ek, .int .i64 (xv + N3 - 1), .int .i64 em, .int .i64 ez, .int .i64 eo] from rfl] at eQ
            generalize xv + N3 - 1 = V at *
            obtain ⟨fz, hfz⟩ : ∃ z, z = xz := ⟨_, rfl⟩
            obtain ⟨fo, hfo⟩ : ∃ z, z = xo := ⟨_, rfl⟩
            rw [← hfz, ← hfo] at pQ
            clear hfz hfo e6 p6 x6 e7 p7 x7 e8 p8 x8 e9 p9 x9 e10 p10 x10 S8 S9 S10 S11 S6 S7 hg7 hg8 hd7 hd8 hx9 m0 m1 m2 m3 m4 m5 fr2 HNX nr wr1 wr2 xv1 xv2
            go_wp2_with fail
            have hw3 : g ≠ w3.heap.size := by omega
            have hw4 : g ≠ w3.heap.size + 1 := by omega
            obtain ⟨sl1, sl2, sl3, sl4⟩ : stp L K ≤ K + 1 ∧ stp L (stp L K) ≤ stp L K + 1 ∧ stp L (stp L (stp L K)) ≤ stp L (stp L K) + 1 ∧ stp L (stp L (stp L (stp L K))) ≤ stp L (stp L (stp L K)) + 1 := ⟨stp_le _ _, stp_le _ _, stp_le _ _, stp_le _ _⟩
            have HA := Lib.hid (fun W K' (s : Sit W w B N w.heap.size g L K' sa n d S) cut tz => shAgree_any H (fun b => B ≤ b ∧ b < N) S ⟨eb, ek, V, em, ez, eo⟩ eb V cut fz fo tz 1 sa n d W (fun b h9 => Nat.lt_of_lt_of_le h9.2 s.s) s.l (by omega))
            have HNX := Lib.hid (fun m (h1 : 1 ≤ m) (h2 : m ≤ 4611686018427387904) W K' (s : Sit W w B N w.heap.size g L K' sa n d S) => next_any W w.heap.size g L K' m s.d hzl h1 h2)
            unfold NextPost at HNX
            have hBN := hBN0
            have SD : Sit WQ.drew w B N w.heap.size g L K sa n d S := ⟨sQ.l.on ⟨Nat.le_refl _, fun _ _ _ => rfl⟩, dice_drew sQ.d, sQ.s, sQ.b.drew⟩
            refine Plan.start (fun W => Six W w3.heap.size eb ek V em ez eo ∧ W.cell? ⟨w3.heap.size + 1, 0, none⟩ = some (.int .i64 fz) ∧ W.cell? ⟨w3.heap.size + 1, 1, none⟩ = some (.int .i64 fo)) [(0, true), (1, true), (2, true), (3, true), (4, true), (5, true), (6, true), (8, true), (9, true), (7, false), (10, false), (11, true), (12, false), (13, true)] (by kernel_rfl) (by kernel_rfl) (by kernel_rfl) (by kernel_rfl) ⟨entry_row eQ, place_row pQ⟩ ?_
            simp only [List.map_cons, List.map_nil, List.getElem?_toArray, List.getElem?_cons_zero, List.getElem?_cons_succ]
            repeat (first | (refine Plan.take ?_ (by rfl) ?_ ?_; rotate_left; (· rintro w9 ⟨⟨u0, u1, u2, u3, u4, u5⟩, v0, v1⟩; go_simp; (try rw [if_neg (by omega)]); all_goals (with_reducible rfl)); simp only [Act.put, List.setIfInBounds_toArray, List.set_cons_zero, List.set_cons_succ]) | (refine Plan.pass (by rfl) ?_; simp only [Act.put, List.setIfInBounds_toArray, List.set_cons_zero, List.set_cons_succ]))
            refine Plan.call (by rfl) 15 _ ?_ (HNX.out 14 (by decide) (by decide) _ K SD) ?_
            · go_simp
            rintro r9 y1 ⟨rfl, hd8, hg8, hs8⟩
            have S1 := SD.next hgB hd8 hg8
            have e1 := ent_row_grown hg8 (show WQ.drew.heap[w3.heap.size]? = _ from eQ) (fun h => hw3 h.symm)
            have p1 := ent_row_grown hg8 (show WQ.drew.heap[w3.heap.size + 1]? = _ from pQ) (fun h => hw4 h.symm)
            clear hd8 hg8
            refine ⟨_, rfl, ⟨entry_row e1, place_row p1⟩, ?_⟩
            simp only [Act.put, List.setIfInBounds_toArray, List.set_cons_zero, List.set_cons_succ]
            repeat (first | (refine Plan.take ?_ (by rfl) ?_ ?_; rotate_left; (· rintro w9 ⟨⟨u0, u1, u2, u3, u4, u5⟩, v0, v1⟩; go_simp; (try rw [if_neg (by omega)]); all_goals (with_reducible rfl)); simp only [Act.put, List.setIfInBounds_toArray, List.set_cons_zero, List.set_cons_succ]) | (refine Plan.pass (by rfl) ?_; simp only [Act.put, List.setIfInBounds_toArray, List.set_cons_zero, List.set_cons_succ]))
            refine Plan.call (by rfl) 15 _ ?_ (HNX.out 5 (by decide) (by decide) _ _ S1) ?_
            · go_simp
            rintro r9 y2 ⟨rfl, hd9, hg9, hs9⟩
            have S2 := S1.next hgB hd9 hg9
            have e2 := ent_row_grown hg9 e1 (fun h => hw3 h.symm)
            have p2 := ent_row_grown hg9 p1 (fun h => hw4 h.symm)
            clear hd9 hg9 e1 p1
            refine ⟨_, rfl, ⟨entry_row e2, place_row p2⟩, ?_⟩
            simp only [Act.put, List.setIfInBounds_toArray, List.set_cons_zero, List.set_cons_succ]
            repeat (first | (refine Plan.take ?_ (by rfl) ?_ ?_; rotate_left; (· rintro w9 ⟨⟨u0, u1, u2, u3, u4, u5⟩, v0, v1⟩; go_simp; (try rw [if_neg (by omega)]); all_goals (with_reducible rfl)); simp only [Act.put, List.setIfInBounds_toArray, List.set_cons_zero, List.set_cons_succ]) | (refine Plan.pass (by rfl) ?_; simp only [Act.put, List.setIfInBounds_toArray, List.set_cons_zero, List.set_cons_succ]))
            refine Plan.call (by rfl) 8 _ ?_ (HA.out _ _ S2 (nxt L K 14) (nxt L (stp L K) 5)) ?_
            · go_simp
            rintro r9 y3 ⟨rfl, h10⟩
            have S9 := S2.on h10
            have e3 := e_on h10 e2 (e_lt e2)
            have p3 := e_on h10 p2 (e_lt p2)
            clear h10 e2 p2
            refine ⟨_, rfl, ⟨entry_row e3, place_row p3⟩, ?_⟩
            simp only [Act.put, List.setIfInBounds_toArray, List.set_cons_zero, List.set_cons_succ]
            repeat (first | (refine Plan.take ?_ (by rfl) ?_ ?_; rotate_left; (· rintro w9 ⟨⟨u0, u1, u2, u3, u4, u5⟩, v0, v1⟩; go_simp; (try rw [if_neg (by omega)]); all_goals (with_reducible rfl)); simp only [Act.put, List.setIfInBounds_toArray, List.set_cons_zero, List.set_cons_succ]) | (refine Plan.pass (by rfl) ?_; simp only [Act.put, List.setIfInBounds_toArray, List.set_cons_zero, List.set_cons_succ]))
            refine Plan.ends ?_
            clear S1 S2 SD sQ eQ pQ HA
            have HN4 := Lib.hid (fun W (s : Sit W w B N w.heap.size g L (stp L (stp L K)) sa n d S) => HNX.out 4 (by decide) (by decide) W _ s)
            generalize nxt L (stp L (stp L K)) 4 = N4 at *
            generalize nxt L K 14 = N14 at *
            generalize nxt L (stp L K) 5 = N5 at *
            go_wp2_with (first
              | (go_at_call 15; ((with_reducible refine (HN4.out _ S9).mono ?_); rintro r9 y4 ⟨rfl, hd11, hg11, hs11⟩; have S11 := S9.next hgB hd11 hg11; have e4 := ent_row_grown hg11 e3 (fun h => hw3 h.symm); have p4 := ent_row_grown hg11 p3 (fun h => hw4 h.symm); clear hd11 hg11 S9 e3 p3; obtain ⟨c0, c1, c2, c3, c4, c5⟩ := entry_row e4; obtain ⟨q0, q1⟩ := place_row p4; rcases next_three N4 with t1 | ⟨t1, t2⟩ | ⟨t1, t2⟩))
              | (go_at_call 16; ((with_reducible refine (ref_reloc eb V fz fo 2 9 em _ S11.from' hn4 (Nat.le_trans hBN S11.s)).mono ?_); rintro r9 y9 ⟨a9, n9, c9, rfl, l9, m9, h9⟩; have v9 := valid_reloc (b := eb) (v := V) (fz := fz) (fo := fo) (tz := 2) (to := 9) (m := em) HV.out; have F9 := S11.on h9))
              | (go_at_call 15; ((with_reducible refine (HNX.out 8 (by decide) (by decide) _ _ S11).mono ?_); rintro r9 y5 ⟨rfl, hd12, hg12, hs12⟩; have S12 := S11.next hgB hd12 hg12; clear hd12 hg12; generalize nxt L (stp L (stp L (stp L K))) 8 = N8 at *))
              | (go_at_call 17; ((with_reducible refine (ref_drop N8 _ S12.from' hn4 (Nat.le_trans hBN S12.s)).mono ?_); rintro r9 y9 ⟨a9, n9, c9, ag, ng, cg, rfl, l9, lg, m9, h9⟩; have v9 := valid_stay (c := N8) HV.out; have F9 := S12.on h9))
              | (go_at_call 18; ((with_reducible refine (ref_install eb ek V em ez eo _ S11.from' hn4 (Nat.le_trans hBN S11.s)).mono ?_); rintro r9 y9 ⟨z1, z2, z3, z4, z5, z6, zB, a9, n9, c9, rfl, l9, m9, h9⟩; have v9 := valid_install (e := ⟨eb, ek, V, em, ez, eo⟩) HV.out; have F9 := S11.on h9)))
            all_goals
              go_roundw
              case rel => exact ⟨j + 1, _, _, a9, n9, c9, by go_num, by omega, rfl, l9, v9, by omega, by omega, F9.d, Nat.le_trans hBN F9.s, F9.b⟩
              case measure => simp [intOf]; omega
          · have eQ := ent_row_grown hg7 e6 (by have := x6lt; omega)
            have pQ := ent_row_grown hg7 p6 (by have := x6lt; omega)
            obtain ⟨K, hK, hKQ⟩ : ∃ K, K = stp L (stp6 L k) ∧ K ≤ 12 * j + 8 := ⟨_, rfl, by have h2 := stp_le L (stp6 L k); omega⟩
            rw [← hK] at S7
            have sQ := S7
            obtain ⟨V, hV⟩ : ∃ z, z = ev := ⟨_, rfl⟩
            obtain ⟨fz, hfz⟩ : ∃ z, z = ez := ⟨_, rfl⟩
            obtain ⟨fo, hfo⟩ : ∃ z, z = eo := ⟨_, rfl⟩
            rw [← hV] at eQ
            rw [← hfz, ← hfo] at pQ
            clear hV hfz hfo
            clear S6 S7 e6 p6 x6 hg7 hd7 hx9
            generalize w7 = WQ at *
            have hw3 : g ≠ w3.heap.size := by omega
            have hw4 : g ≠ w3.heap.size + 1 := by omega
            obtain ⟨sl1, sl2, sl3, sl4⟩ : stp L K ≤ K + 1 ∧ stp L (stp L K) ≤ stp L K + 1 ∧ stp L (stp L (stp L K)) ≤ stp L (stp L K) + 1 ∧ stp L (stp L (stp L (stp L K))) ≤ stp L (stp L (stp L K)) + 1 := ⟨stp_le _ _, stp_le _ _, stp_le _ _, stp_le _ _⟩
            have HA := Lib.hid (fun W K' (s : Sit W w B N w.heap.size g L K' sa n d S) cut tz => shAgree_any H (fun b => B ≤ b ∧ b < N) S ⟨eb, ek, V, em, ez, eo⟩ eb V cut fz fo tz 1 sa n d W (fun b h9 => Nat.lt_of_lt_of_le h9.2 s.s) s.l (by omega))
            have HNX := Lib.hid (fun m (h1 : 1 ≤ m) (h2 : m ≤ 4611686018427387904) W K' (s : Sit W w B N w.heap.size g L K' sa n d S) => next_any W w.heap.size g L K' m s.d hzl h1 h2)
            unfold NextPost at HNX
            have hBN := hBN0
            have SD : Sit WQ.drew w B N w.heap.size g L K sa n d S := ⟨sQ.l.on ⟨Nat.le_refl _, fun _ _ _ => rfl⟩, dice_drew sQ.d, sQ.s, sQ.b.drew⟩
            refine Plan.start (fun W => Six W w3.heap.size eb ek V em ez eo ∧ W.cell? ⟨w3.heap.size + 1, 0, none⟩ = some (.int .i64 fz) ∧ W.cell? ⟨w3.heap.size + 1, 1, none⟩ = some (.int .i64 fo)) [(0, true), (1, true), (2, true), (3, true), (4, true), (5, true), (6, true), (8, true), (9, true), (7, false), (10, false), (11, true), (12, false), (13, true)] (by kernel_rfl) (by kernel_rfl) (by kernel_rfl) (by kernel_rfl) ⟨entry_row eQ, place_row pQ⟩ ?_
            simp only [List.map_cons, List.map_nil, List.getElem?_toArray, List.getElem?_cons_zero, List.getElem?_cons_succ]
            repeat (first | (refine Plan.take ?_ (by rfl) ?_ ?_; rotate_left; (· rintro w9 ⟨⟨u0, u1, u2, u3, u4, u5⟩, v0, v1⟩; go_simp; (try rw [if_neg (by omega)]); all_goals (with_reducible rfl)); simp only [Act.put, List.setIfInBounds_toArray, List.set_cons_zero, List.set_cons_succ]) | (refine Plan.pass (by rfl) ?_; simp only [Act.put, List.setIfInBounds_toArray, List.set_cons_zero, List.set_cons_succ]))
            refine Plan.call (by rfl) 15 _ ?_ (HNX.out 14 (by decide) (by decide) _ K SD) ?_
            · go_simp
            rintro r9 y1 ⟨rfl, hd8, hg8, hs8⟩
            have S1 := SD.next hgB hd8 hg8
            have e1 := ent_row_grown hg8 (show WQ.drew.heap[w3.heap.size]? = _ from eQ) (fun h => hw3 h.symm)
            have p1 := ent_row_grown hg8 (show WQ.drew.heap[w3.heap.size + 1]? = _ from pQ) (fun h => hw4 h.symm)
            clear hd8 hg8
            refine ⟨_, rfl, ⟨entry_row e1, place_row p1⟩, ?_⟩
            simp only [Act.put, List.setIfInBounds_toArray, List.set_cons_zero, List.set_cons_succ]
            repeat (first | (refine Plan.take ?_ (by rfl) ?_ ?_; rotate_left; (· rintro w9 ⟨⟨u0, u1, u2, u3, u4, u5⟩, v0, v1⟩; go_simp; (try rw [if_neg (by omega)]); all_goals (with_reducible rfl)); simp only [Act.put, List.setIfInBounds_toArray, List.set_cons_zero, List.set_cons_succ]) | (refine Plan.pass (by rfl) ?_; simp only [Act.put, List.setIfInBounds_toArray, List.set_cons_zero, List.set_cons_succ]))
            refine Plan.call (by rfl) 15 _ ?_ (HNX.out 5 (by decide) (by decide) _ _ S1) ?_
            · go_simp
            rintro r9 y2 ⟨rfl, hd9, hg9, hs9⟩
            have S2 := S1.next hgB hd9 hg9
            have e2 := ent_row_grown hg9 e1 (fun h => hw3 h.symm)
            have p2 := ent_row_grown hg9 p1 (fun h => hw4 h.symm)
            clear hd9 hg9 e1 p1
            refine ⟨_, rfl, ⟨entry_row e2, place_row p2⟩, ?_⟩
            simp only [Act.put, List.setIfInBounds_toArray, List.set_cons_zero, List.set_cons_succ]
            repeat (first | (refine Plan.take ?_ (by rfl) ?_ ?_; rotate_left; (· rintro w9 ⟨⟨u0, u1, u2, u3, u4, u5⟩, v0, v1⟩; go_simp; (try rw [if_neg (by omega)]); all_goals (with_reducible rfl)); simp only [Act.put, List.setIfInBounds_toArray, List.set_cons_zero, List.set_cons_succ]) | (refine Plan.pass (by rfl) ?_; simp only [Act.put, List.setIfInBounds_toArray, List.set_cons_zero, List.set_cons_succ]))
            refine Plan.call (by rfl) 8 _ ?_ (HA.out _ _ S2 (nxt L K 14) (nxt L (stp L K) 5)) ?_
            · go_simp
            rintro r9 y3 ⟨rfl, h10⟩
            have S9 := S2.on h10
            have e3 := e_on h10 e2 (e_lt e2)
            have p3 := e_on h10 p2 (e_lt p2)
            clear h10 e2 p2
            refine ⟨_, rfl, ⟨entry_row e3, place_row p3⟩, ?_⟩
            simp only [Act.put, List.setIfInBounds_toArray, List.set_cons_zero, List.set_cons_succ]
            repeat (first | (refine Plan.take ?_ (by rfl) ?_ ?_; rotate_left; (· rintro w9 ⟨⟨u0, u1, u2, u3, u4, u5⟩, v0, v1⟩; go_simp; (try rw [if_neg (by omega)]); all_goals (with_reducible rfl)); simp only [Act.put, List.setIfInBounds_toArray, List.set_cons_zero, List.set_cons_succ]) | (refine Plan.pass (by rfl) ?_; simp only [Act.put, List.setIfInBounds_toArray, List.set_cons_zero, List.set_cons_succ]))
            refine Plan.ends ?_
            clear S1 S2 SD sQ eQ pQ HA
            have HN4 := Lib.hid (fun W (s : Sit W w B N w.heap.size g L (stp L (stp L K)) sa n d S) => HNX.out 4 (by decide) (by decide) W _ s)
            generalize nxt L (stp L (stp L K)) 4 = N4 at *
            generalize nxt L K 14 = N14 at *
            generalize nxt L (stp L K) 5 = N5 at *
            go_wp2_with (first
              | (go_at_call 15; ((with_reducible refine (HN4.out _ S9).mono ?_); rintro r9 y4 ⟨rfl, hd11, hg11, hs11⟩; have S11 := S9.next hgB hd11 hg11; have e4 := ent_row_grown hg11 e3 (fun h => hw3 h.symm); have p4 := ent_row_grown hg11 p3 (fun h => hw4 h.symm); clear hd11 hg11 S9 e3 p3; obtain ⟨c0, c1, c2, c3, c4, c5⟩ := entry_row e4; obtain ⟨q0, q1⟩ := place_row p4; rcases next_three N4 with t1 | ⟨t1, t2⟩ | ⟨t1, t2⟩))
              | (go_at_call 16; ((with_reducible refine (ref_reloc eb V fz fo 2 9 em _ S11.from' hn4 (Nat.le_trans hBN S11.s)).mono ?_); rintro r9 y9 ⟨a9, n9, c9, rfl, l9, m9, h9⟩; have v9 := valid_reloc (b := eb) (v := V) (fz := fz) (fo := fo) (tz := 2) (to := 9) (m := em) HV.out; have F9 := S11.on h9))
              | (go_at_call 15; ((with_reducible refine (HNX.out 8 (by decide) (by decide) _ _ S11).mono ?_); rintro r9 y5 ⟨rfl, hd12, hg12, hs12⟩; have S12 := S11.next hgB hd12 hg12; clear hd12 hg12; generalize nxt L (stp L (stp L (stp L K))) 8 = N8 at *))
              | (go_at_call 17; ((with_reducible refine (ref_drop N8 _ S12.from' hn4 (Nat.le_trans hBN S12.s)).mono ?_); rintro r9 y9 ⟨a9, n9, c9, ag, ng, cg, rfl, l9, lg, m9, h9⟩; have v9 := valid_stay (c := N8) HV.out; have F9 := S12.on h9))
              | (go_at_call 18; ((with_reducible refine (ref_install eb ek V em ez eo _ S11.from' hn4 (Nat.le_trans hBN S11.s)).mono ?_); rintro r9 y9 ⟨z1, z2, z3, z4, z5, z6, zB, a9, n9, c9, rfl, l9, m9, h9⟩; have v9 := valid_install (e := ⟨eb, ek, V, em, ez, eo⟩) HV.out; have F9 := S11.on h9)))
            all_goals
              go_roundw
              case rel => exact ⟨j + 1, _, _, a9, n9, c9, by go_num, by omega, rfl, l9, v9, by omega, by omega, F9.d, Nat.le_trans hBN F9.s, F9.b⟩
              case measure => simp [intOf]; omega
          · obtain ⟨K, hK, hKQ⟩ : ∃ K, K = stp6 L k ∧ K ≤ 12 * j + 8 := ⟨_, rfl, by omega⟩
            rw [← hK] at S6
            have sQ := S6
            have eQ := e6
            have pQ := p6
            obtain ⟨V, hV⟩ : ∃ z, z = ev := ⟨_, rfl⟩
            obtain ⟨fz, hfz⟩ : ∃ z, z = ez := ⟨_, rfl⟩
            obtain ⟨fo, hfo⟩ : ∃ z, z = eo := ⟨_, rfl⟩
            rw [← hV] at eQ
            rw [← hfz, ← hfo] at pQ
            clear hV hfz hfo
            clear S6 e6 p6
            generalize w5.alloc (entRow 0 0 0 0 0 0) = WQ at *
            have hw3 : g ≠ w3.heap.size := by omega
            have hw4 : g ≠ w3.heap.size + 1 := by omega
            obtain ⟨sl1, sl2, sl3, sl4⟩ : stp L K ≤ K + 1 ∧ stp L (stp L K) ≤ stp L K + 1 ∧ stp L (stp L (stp L K)) ≤ stp L (stp L K) + 1 ∧ stp L (stp L (stp L (stp L K))) ≤ stp L (stp L (stp L K)) + 1 := ⟨stp_le _ _, stp_le _ _, stp_le _ _, stp_le _ _⟩
            have HA := Lib.hid (fun W K' (s : Sit W w B N w.heap.size g L K' sa n d S) cut tz => shAgree_any H (fun b => B ≤ b ∧ b < N) S ⟨eb, ek, V, em, ez, eo⟩ eb V cut fz fo tz 1 sa n d W (fun b h9 => Nat.lt_of_lt_of_le h9.2 s.s) s.l (by omega))
            have HNX := Lib.hid (fun m (h1 : 1 ≤ m) (h2 : m ≤ 4611686018427387904) W K' (s : Sit W w B N w.heap.size g L K' sa n d S) => next_any W w.heap.size g L K' m s.d hzl h1 h2)
            unfold NextPost at HNX
            have hBN := hBN0
            have SD : Sit WQ.drew w B N w.heap.size g L K sa n d S := ⟨sQ.l.on ⟨Nat.le_refl _, fun _ _ _ => rfl⟩, dice_drew sQ.d, sQ.s, sQ.b.drew⟩
            refine Plan.start (fun W => Six W w3.heap.size eb ek V em ez eo ∧ W.cell? ⟨w3.heap.size + 1, 0, none⟩ = some (.int .i64 fz) ∧ W.cell? ⟨w3.heap.size + 1, 1, none⟩ = some (.int .i64 fo)) [(0, true), (1, true), (2, true), (3, true), (4, true), (5, true), (6, true), (8, true), (9, true), (7, false), (10, false), (11, true), (12, false), (13, true)] (by kernel_rfl) (by kernel_rfl) (by kernel_rfl) (by kernel_rfl) ⟨entry_row eQ, place_row pQ⟩ ?_
            simp only [List.map_cons, List.map_nil, List.getElem?_toArray, List.getElem?_cons_zero, List.getElem?_cons_succ]
            repeat (first | (refine Plan.take ?_ (by rfl) ?_ ?_; rotate_left; (· rintro w9 ⟨⟨u0, u1, u2, u3, u4, u5⟩, v0, v1⟩; go_simp; (try rw [if_neg (by omega)]); all_goals (with_reducible rfl)); simp only [Act.put, List.setIfInBounds_toArray, List.set_cons_zero, List.set_cons_succ]) | (refine Plan.pass (by rfl) ?_; simp only [Act.put, List.setIfInBounds_toArray, List.set_cons_zero, List.set_cons_succ]))
            refine Plan.call (by rfl) 15 _ ?_ (HNX.out 14 (by decide) (by decide) _ K SD) ?_
            · go_simp
            rintro r9 y1 ⟨rfl, hd8, hg8, hs8⟩
            have S1 := SD.next hgB hd8 hg8
            have e1 := ent_row_grown hg8 (show WQ.drew.heap[w3.heap.size]? = _ from eQ) (fun h => hw3 h.symm)
            have p1 := ent_row_grown hg8 (show WQ.drew.heap[w3.heap.size + 1]? = _ from pQ) (fun h => hw4 h.symm)
            clear hd8 hg8
            refine ⟨_, rfl, ⟨entry_row e1, place_row p1⟩, ?_⟩
            simp only [Act.put, List.setIfInBounds_toArray, List.set_cons_zero, List.set_cons_succ]
            repeat (first | (refine Plan.take ?_ (by rfl) ?_ ?_; rotate_left; (· rintro w9 ⟨⟨u0, u1, u2, u3, u4, u5⟩, v0, v1⟩; go_simp; (try rw [if_neg (by omega)]); all_goals (with_reducible rfl)); simp only [Act.put, List.setIfInBounds_toArray, List.set_cons_zero, List.set_cons_succ]) | (refine Plan.pass (by rfl) ?_; simp only [Act.put, List.setIfInBounds_toArray, List.set_cons_zero, List.set_cons_succ]))
            refine Plan.call (by rfl) 15 _ ?_ (HNX.out 5 (by decide) (by decide) _ _ S1) ?_
            · go_simp
            rintro r9 y2 ⟨rfl, hd9, hg9, hs9⟩
            have S2 := S1.next hgB hd9 hg9
            have e2 := ent_row_grown hg9 e1 (fun h => hw3 h.symm)
            have p2 := ent_row_grown hg9 p1 (fun h => hw4 h.symm)
            clear hd9 hg9 e1 p1
            refine ⟨_, rfl, ⟨entry_row e2, place_row p2⟩, ?_⟩
            simp only [Act.put, List.setIfInBounds_toArray, List.set_cons_zero, List.set_cons_succ]
            repeat (first | (refine Plan.take ?_ (by rfl) ?_ ?_; rotate_left; (· rintro w9 ⟨⟨u0, u1, u2, u3, u4, u5⟩, v0, v1⟩; go_simp; (try rw [if_neg (by omega)]); all_goals (with_reducible rfl)); simp only [Act.put, List.setIfInBounds_toArray, List.set_cons_zero, List.set_cons_succ]) | (refine Plan.pass (by rfl) ?_; simp only [Act.put, List.setIfInBounds_toArray, List.set_cons_zero, List.set_cons_succ]))
            refine Plan.call (by rfl) 8 _ ?_ (HA.out _ _ S2 (nxt L K 14) (nxt L (stp L K) 5)) ?_
            · go_simp
            rintro r9 y3 ⟨rfl, h10⟩
            have S9 := S2.on h10
            have e3 := e_on h10 e2 (e_lt e2)
            have p3 := e_on h10 p2 (e_lt p2)
            clear h10 e2 p2
            refine ⟨_, rfl, ⟨entry_row e3, place_row p3⟩, ?_⟩
            simp only [Act.put, List.setIfInBounds_toArray, List.set_cons_zero, List.set_cons_succ]
            repeat (first | (refine Plan.take ?_ (by rfl) ?_ ?_; rotate_left; (· rintro w9 ⟨⟨u0, u1, u2, u3, u4, u5⟩, v0, v1⟩; go_simp; (try rw [if_neg (by omega)]); all_goals (with_reducible rfl)); simp only [Act.put, List.setIfInBounds_toArray, List.set_cons_zero, List.set_cons_succ]) | (refine Plan.pass (by rfl) ?_; simp only [Act.put, List.setIfInBounds_toArray, List.set_cons_zero, List.set_cons_succ]))
            refine Plan.ends ?_
            clear S1 S2 SD sQ eQ pQ HA
            have HN4 := Lib.hid (fun W (s : Sit W w B N w.heap.size g L (stp L (stp L K)) sa n d S) => HNX.out 4 (by decide) (by decide) W _ s)
            generalize nxt L (stp L (stp L K)) 4 = N4 at *
            generalize nxt L K 14 = N14 at *
            generalize nxt L (stp L K) 5 = N5 at *
            go_wp2_with (first
              | (go_at_call 15; ((with_reducible refine (HN4.out _ S9).mono ?_); rintro r9 y4 ⟨rfl, hd11, hg11, hs11⟩; have S11 := S9.next hgB hd11 hg11; have e4 := ent_row_grown hg11 e3 (fun h => hw3 h.symm); have p4 := ent_row_grown hg11 p3 (fun h => hw4 h.symm); clear hd11 hg11 S9 e3 p3; obtain ⟨c0, c1, c2, c3, c4, c5⟩ := entry_row e4; obtain ⟨q0, q1⟩ := place_row p4; rcases next_three N4 with t1 | ⟨t1, t2⟩ | ⟨t1, t2⟩))
              | (go_at_call 16; ((with_reducible refine (ref_reloc eb V fz fo 2 9 em _ S11.from' hn4 (Nat.le_trans hBN S11.s)).mono ?_); rintro r9 y9 ⟨a9, n9, c9, rfl, l9, m9, h9⟩; have v9 := valid_reloc (b := eb) (v := V) (fz := fz) (fo := fo) (tz := 2) (to := 9) (m := em) HV.out; have F9 := S11.on h9))
              | (go_at_call 15; ((with_reducible refine (HNX.out 8 (by decide) (by decide) _ _ S11).mono ?_); rintro r9 y5 ⟨rfl, hd12, hg12, hs12⟩; have S12 := S11.next hgB hd12 hg12; clear hd12 hg12; generalize nxt L (stp L (stp L (stp L K))) 8 = N8 at *))
              | (go_at_call 17; ((with_reducible refine (ref_drop N8 _ S12.from' hn4 (Nat.le_trans hBN S12.s)).mono ?_); rintro r9 y9 ⟨a9, n9, c9, ag, ng, cg, rfl, l9, lg, m9, h9⟩; have v9 := valid_stay (c := N8) HV.out; have F9 := S12.on h9))
              | (go_at_call 18; ((with_reducible refine (ref_install eb ek V em ez eo _ S11.from' hn4 (Nat.le_trans hBN S11.s)).mono ?_); rintro r9 y9 ⟨z1, z2, z3, z4, z5, z6, zB, a9, n9, c9, rfl, l9, m9, h9⟩; have v9 := valid_install (e := ⟨eb, ek, V, em, ez, eo⟩) HV.out; have F9 := S11.on h9)))
            all_goals
              go_roundw
              case rel => exact ⟨j + 1, _, _, a9, n9, c9, by go_num, by omega, rfl, l9, v9, by omega, by omega, F9.d, Nat.le_trans hBN F9.s, F9.b⟩
              case measure => simp [intOf]; omega
      · obtain rfl : j = 30 := by omega
        clear hd hl hv
        go_wp2_with (first
          | (go_at_call 9; ((with_reducible refine (shAwake_any H _).mono ?_); rintro r9 w99 ⟨rfl, h99⟩)))
        go_ret
        exact ⟨rfl, hb.trans (h99.mono hb.size)⟩
  · rw [decide_eq_false hlen] at hli
    have HLI := Lib.hid hli
    clear hli
    go_enter Try.func4, Try.ntmps4
    go_wp2_with (first
      | (go_at_call 10; ((with_reducible refine HLI.out.mono ?_); rintro e w0 ⟨rfl, rfl⟩))
      | (go_at_call 9; ((with_reducible refine (shAwake_any H _).mono ?_); rintro e w1 ⟨rfl, hb1⟩)))
    go_ret
    exact ⟨rfl, hb1⟩
end Go.Proofs.Ytbaclgedohpibaa.Ents
