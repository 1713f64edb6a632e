
/- The walk of LiveFollows, under the program's contracts. -/
import Derived.Test.YtigmjpkhpoolkaaCntRaw
import Derived.Test.YtigmjpkhpoolkaaCntMath2
import Derived.Test.YtigmjpkhpoolkaaMakeRest
import Derived.Test.YtigmjpkhpoolkaaEntInst
import Derived.Test.YtigmjpkhpoolkaaEntDrop
import Derived.Test.YtigmjpkhpoolkaaEntMake
namespace Go.Proofs.Ytigmjpkhpoolkaa.Ents
open Go.RowKit Plan EntMath CntMath
theorem of_call (H : LiveOk) {S : List Ent} {a : Option Addr} {n c : Nat} {W : World} {F : Nat → Prop} (hz : inZ ((4 : Nat) : Int) S = true) (hl : EList W F a n c S) (hn : n ≤ 1000) :
    Calls Try.prog 16 #[.int .i64 4, .slice a n c] W fun r w' => ∃ fa fc fa2 fc2, r = .returned (.tuple #[cntV fa 4 fc fa2 4 fc2, .bool true]) ∧ CList w' (fun b => W.heap.size ≤ b) fa 4 fc fa2 4 fc2 (cOf 4 S) ∧ Below W.heap.size W w' := by
  have h := H.cnt F S a n c 4 W hl hn
  have h1 : ofB 4 S = true ∧ ofC 4 S = cOf 4 S := of_is (n := 4) (by decide) (by decide) hz
  unfold COfPost at h
  rw [h1.1, h1.2] at h
  refine h.mono ?_
  rintro r w' ⟨fa, fn, fc, fa2, fn2, fc2, rfl, lf, hb⟩
  obtain rfl : fn = 4 := lf.l.length.symm.trans (cOf_len 4 S)
  obtain rfl : fn2 = 4 := lf.p.length.symm
  exact ⟨_, _, _, _, rfl, lf, hb⟩
theorem chg_call (H : LiveOk) {W : World} {F : Nat → Prop} {x x2 : Option Addr} {c c2 : Nat} {S T : List Ent} {ob ok ov om oz oo fb fk fv fm fz fo : Int} {had is : Bool}
    (hc : changeC (cOf 4 S) oz fz had is = cOf 4 T ∧ changeB (cOf 4 S) oz fz had is = true) (hl : CList W F x 4 c x2 4 c2 (cOf 4 S)) :
    Calls Try.prog 14 #[.agg #[.slice x 4 c, .slice x2 4 c2], .agg #[.int .i64 ob, .int .i64 ok, .int .i64 ov, .int .i64 om, .int .i64 oz, .int .i64 oo], .agg #[.int .i64 fb, .int .i64 fk, .int .i64 fv, .int .i64 fm, .int .i64 fz, .int .i64 fo], .bool had, .bool is] W fun r w' => ∃ y e y2 e2, r = .returned (.tuple #[cntV y 4 e y2 4 e2, .bool true]) ∧ CList w' (Plus (fun b => F b ∧ b < W.heap.size) W.heap.size) y 4 e y2 4 e2 (cOf 4 T) ∧ Below W.heap.size W w' := by
  have h := H.chg _ (cOf 4 S) ⟨ob, ok, ov, om, oz, oo⟩ ⟨fb, fk, fv, fm, fz, fo⟩ had is x x2 4 c 4 c2 W (fun b h => h.2) hl.cut (by decide) (by decide)
  unfold CntPost at h
  simp only [hc.1, hc.2] at h
  refine h.mono ?_
  rintro r w' ⟨y, n, e, y2, n2, e2, rfl, lf, hb⟩
  obtain rfl : n = 4 := lf.l.length.symm.trans (cOf_len 4 T)
  obtain rfl : n2 = 4 := lf.p.length.symm
  exact ⟨_, _, _, _, rfl, lf, hb⟩
theorem two_ways (b : Bool) : b = true ∨ b = false := by cases b <;> simp
theorem fol_bne (k : Int) : ∃ hd : Bool, (k != 0) = hd ∧ decide (k ≠ 0) = hd := ⟨k != 0, rfl, by by_cases h : k = 0 <;> simp [h]⟩
theorem fol_ok {N1 N2 N3 N4 : Int} (h1 : 0 ≤ N1) (h2 : 0 ≤ N2 ∧ N2 < 2) (h3 : 0 ≤ N3 ∧ N3 < 20) (h4 : 0 ≤ N4) : okE ⟨N1, 1 + N2, 1 + N3, 0, N4, 0⟩ = true := by
  unfold okE
  simp only [Bool.and_eq_true, Bool.or_eq_true, decide_eq_true_eq]
  omega
theorem inst_call {W : World} {F : Nat → Prop} {S : List Ent} {a : Option Addr} {n d : Nat} {eb ek ev em ez eo : Int} (hl : EList W (fun b => F b ∧ b < W.heap.size) a n d S) (hn : n ≤ 900000) :
    Calls Try.prog 15 #[.slice a n d, .agg #[.int .i64 eb, .int .i64 ek, .int .i64 ev, .int .i64 em, .int .i64 ez, .int .i64 eo]] W fun r w' => ∃ ta tn tc ob ok ov om oz oo, installE S ⟨eb, ek, ev, em, ez, eo⟩ = ⟨ob, ok, ov, om, oz, oo⟩ ∧ r = .returned (.tuple #[.slice ta tn tc, .agg #[.int .i64 ob, .int .i64 ok, .int .i64 ov, .int .i64 om, .int .i64 oz, .int .i64 oo], .bool (newer S ⟨eb, ek, ev, em, ez, eo⟩)]) ∧ EList w' (Plus (fun b => F b ∧ b < W.heap.size) W.heap.size) ta tn tc (installL S ⟨eb, ek, ev, em, ez, eo⟩) ∧ Below W.heap.size W w' := by
  refine (refInstall_any _ S ⟨eb, ek, ev, em, ez, eo⟩ a n d W (fun _ h => h.2) hl hn).mono ?_
  rintro r w' ⟨ta, tn, tc, rfl, ls, hb⟩
  exact ⟨ta, tn, tc, _, _, _, _, _, _, rfl, rfl, ls, hb⟩
theorem fol_grown {F : Nat → Prop} {w w' : World} {g : Nat} (h : w.grownBy w' (some g)) (hF : ¬ F g) : Same F w w' :=
  ⟨h.size, fun b hb hl => h.block b hl (fun e => hF (by cases e; exact hb))⟩
theorem fol_row (W : World) (r : Nat) (cs : Array Value) : W.grownBy (W.setRow r cs) (some r) :=
  ⟨rfl, rfl, rfl, Nat.le_of_eq (by simp [World.setRow]), fun i _ hne => setRow_other W r i cs (fun e => hne (by rw [e]))⟩
theorem fol_below {a b c : World} {B g : Nat} (h : Below B a b) (hg : b.grownBy c (some g)) (hB : B ≤ g) (hs : B ≤ b.heap.size) : Below B a c :=
  h.trans ⟨hg.os, hg.tape, hg.output, hg.size, fun i hi => hg.block i (Nat.lt_of_lt_of_le hi hs) (fun e => by cases e; omega)⟩
theorem fol_plus {W : World} {X g b : Nat} (hX : X < W.heap.size) (hg : g < W.heap.size) (h : Plus (fun b => (b ≠ X ∧ b ≠ g) ∧ b < W.heap.size) W.heap.size b) : b ≠ X ∧ b ≠ g := by
  rcases h with h | h
  · exact h.1
  · exact ⟨by omega, by omega⟩
/-- where a round of the law stands: a shard and counters of the call's own beside the dice and the box of the counters -/
structure Fol (W W0 : World) (X base g : Nat) (L : List Int) (k : Nat) (a : Option Addr) (n d : Nat) (S : List Ent) (x x2 : Option Addr) (c c2 : Nat) (C : Cnt) : Prop where
  s : EList W (fun b => b ≠ X ∧ b ≠ g) a n d S
  l : CList W (fun b => b ≠ X ∧ b ≠ g) x 4 c x2 4 c2 C
  h : W.heap[X]? = some (cntRow x 4 c x2 4 c2)
  d : Dice W base g L k
  b : Below base W0 W
  p : g < X
section
variable {W W0 W' : World} {X base g : Nat} {L : List Int} {k k' : Nat} {a a' : Option Addr} {n d n' d' : Nat} {S S' : List Ent} {x x2 y y2 : Option Addr} {c c2 e e2 : Nat} {C C' : Cnt}
theorem Fol.on (f : Fol W W0 X base g L k a n d S x x2 c c2 C) (hb : Below W.heap.size W W') : Fol W' W0 X base g L k a n d S x x2 c c2 C :=
  ⟨f.s.on (Same.below hb), f.l.on (Same.below hb), e_on hb f.h (e_lt f.h), dice_on f.d hb (Nat.le_refl _), f.b.trans (hb.mono (Nat.le_trans (dice_base f.d) (Nat.le_of_lt (dice_lt f.d)))), f.p⟩
theorem Fol.al (f : Fol W W0 X base g L k a n d S x x2 c c2 C) (o : Obj) : Fol (W.alloc o) W0 X base g L k a n d S x x2 c c2 C := f.on ((Below.refl _ _).alloc (Nat.le_refl _) o)
theorem Fol.drew (f : Fol W W0 X base g L k a n d S x x2 c c2 C) : Fol W.drew W0 X base g L k a n d S x x2 c c2 C := f.on (Below.refl _ _).drew
theorem Fol.next (f : Fol W W0 X base g L k a n d S x x2 c c2 C) (hd : Dice W' base g L k') (hw : W.grownBy W' (some g)) : Fol W' W0 X base g L k' a n d S x x2 c c2 C :=
  ⟨f.s.on (fol_grown hw (fun h => h.2 rfl)), f.l.on (fol_grown hw (fun h => h.2 rfl)), ent_row_grown hw f.h (by have := f.p; omega), hd, fol_below f.b hw (dice_base f.d) (Nat.le_trans (dice_base f.d) (Nat.le_of_lt (dice_lt f.d))), f.p⟩
/-- another shard, made by a call -/
theorem Fol.list (f : Fol W W0 X base g L k a n d S x x2 c c2 C) (hb : Below W.heap.size W W') (hs : EList W' (Plus (fun b => (b ≠ X ∧ b ≠ g) ∧ b < W.heap.size) W.heap.size) a' n' d' S') : Fol W' W0 X base g L k a' n' d' S' x x2 c c2 C :=
  ⟨hs.mono fun _ _ h => fol_plus (e_lt f.h) (dice_lt f.d) h, (f.on hb).l, (f.on hb).h, (f.on hb).d, (f.on hb).b, f.p⟩
/-- other counters, made by a call, in the box -/
theorem Fol.cnt (f : Fol W W0 X base g L k a n d S x x2 c c2 C) (hb : Below W.heap.size W W') (hl : CList W' (Plus (fun b => (b ≠ X ∧ b ≠ g) ∧ b < W.heap.size) W.heap.size) y 4 e y2 4 e2 C') : Fol (W'.setRow X #[.slice y 4 e, .slice y2 4 e2]) W0 X base g L k a n d S y y2 e e2 C' :=
  have f' := f.on hb
  have hg := fol_row W' X #[.slice y 4 e, .slice y2 4 e2]
  ⟨f'.s.on (Same.row (r := X) (fun h => h.1 rfl) _), (hl.mono fun _ _ h => fol_plus (e_lt f.h) (dice_lt f.d) h).on (Same.row (r := X) (fun h => h.1 rfl) _), setRow_heap W' X _ _ _ _ f'.h, dice_far f'.d hg f'.p, below_setRow f'.b (Nat.le_trans (dice_base f.d) (Nat.le_of_lt f.p)) _, f'.p⟩
end
set_option maxHeartbeats 16000000 in
set_option maxRecDepth 20000 in
theorem cntFol_any (H : LiveOk) (a : Option Addr) (len cap : Nat) (zs : List Int) (w : World) (hrow : IsRow .i64 w a len cap zs) :
    Calls Try.prog 4 #[.slice a len cap] w fun r w' => r = .returned (.bool true) ∧ Below w.heap.size w w' := by
  have hli := light_any a len cap w
  have HW := Lib.hid (fun W => cntAwake_any H W)
  by_cases hlen : (len : Int) ≤ 300
  · rw [decide_eq_true hlen] at hli
    have hro := roll_any a len cap zs w hrow (by omega)
    have hzl : (zs.take len).length ≤ 100000 := by rw [List.length_take]; omega
    generalize zs.take len = L at hro hzl
    unfold RollPost at hro
    have HR := Lib.hid hro
    have HLI := Lib.hid hli
    have hnew := fun W => H.new 4 W
    unfold CNewPost at hnew
    rw [follow_new.1, follow_new.2] at hnew
    have HN := Lib.hid hnew
    clear hro hli hnew
    go_enter Try.func4, Try.ntmps4
    go_wp2_with (first
      | (go_at_call 8; ((with_reducible refine HLI.out.mono ?_); rintro e w0 ⟨rfl, rfl⟩))
      | (go_at_call 9; ((with_reducible refine HR.out.mono ?_); rintro e w1 ⟨g, rfl, hd1, hb1⟩))
      | (go_at_call 10; ((with_reducible refine (HN.out _).mono ?_); rintro r9 w2 ⟨xa, xn, xc, xa2, xn2, xc2, rfl, lx, h2⟩; obtain rfl : xn = 4 := (lx.l.length.symm.trans (cOf_len 4 [])); obtain rfl : xn2 = 4 := lx.p.length.symm; clear HN)))
    have hgB := dice_lt hd1
    have hsz := h2.size
    have F0 : Fol (w2.alloc (cntRow xa 4 xc xa2 4 xc2)) w w2.heap.size w.heap.size g L 0 none 0 0 [] xa xa2 xc xc2 (cOf 4 []) :=
      ⟨EList.nil _ _, (lx.mono (fun b hb h => ⟨by omega, by omega⟩)).on (Same.alloc _ _), heap_alloc_new w2 _, dice_on hd1 (h2.alloc h2.size (cntRow xa 4 xc xa2 4 xc2)) (Nat.le_refl _), hb1.trans ((h2.alloc h2.size (cntRow xa 4 xc xa2 4 xc2)).mono hb1.size), by omega⟩
    clear lx hd1 hb1 h2 hgB hsz HR HLI
    generalize w2.alloc (cntRow xa 4 xc xa2 4 xc2) = w3 at *
    generalize w2.heap.size = X at *
    go_loopw [6, 7] (fun v q wr => ∃ (j k : Nat) (S : List Ent) (sa : Option Addr) (n d : Nat) (xa xa2 : Option Addr) (xc xc2 : Nat), q = .int .i64 (j : Int) ∧ j ≤ 40 ∧ v = .slice sa n d ∧ n ≤ j ∧ k ≤ 6 * j ∧ RowKit.Hid (validB S = true ∧ inZ ((4 : Nat) : Int) S = true) ∧ Fol wr w X w.heap.size g L k sa n d S xa xa2 xc xc2 (cOf 4 S)) (fun _ q _ => 40 - (intOf q).toNat)
    case atStart => exact ⟨0, 0, [], none, 0, 0, _, _, _, _, rfl, by omega, rfl, by omega, by omega, Lib.hid ⟨rfl, rfl⟩, F0⟩
    case round =>
      clear F0
      obtain ⟨j, k, S, sa, n, d, xa, xa2, xc, xc2, rfl, hj, rfl, hn, hk, HS, F0⟩ := hrel
      by_cases hlt : j < 40
      · have hjI : (j : Int) < 40 := by omega
        have hlS := F0.s.length
        have hrs := rest_dice _ w.heap.size g L k F0.d hzl (by omega)
        rcases (show max (0 : Int) ((L.length : Int) - (k : Int)) = 0 ∨ 0 < max (0 : Int) ((L.length : Int) - (k : Int)) by omega) with hz | hz
        · rw [hz] at hrs
          have b4 := F0.b.drew
          have HRS := Lib.hid hrs
          clear hrs F0 hz
          go_wp2_with (first
            | (go_at_call 11; ((with_reducible refine HRS.out.mono ?_); rintro r9 w2 ⟨rfl, rfl⟩))
            | (go_at_call 7; ((with_reducible refine (HW.out _).mono ?_); rintro r9 w99 ⟨rfl, h99⟩)))
          go_ret
          exact ⟨rfl, b4.trans (h99.mono b4.size)⟩
        · generalize max (0 : Int) ((L.length : Int) - (k : Int)) = R at hz hrs
          have F1 := F0.drew
          have HRS := Lib.hid hrs
          clear hrs F0
          have hzd : decide (0 < R) = true := by simpa using hz
          generalize wr.drew = wd at *
          go_wp2_with (first
            | (go_at_call 11; ((with_reducible refine HRS.out.mono ?_); rintro r9 w5 ⟨rfl, rfl⟩))
            | (go_at_call 12; ((with_reducible refine (next_any _ _ _ _ k 6 F1.d hzl (by decide) (by decide)).mono ?_); rintro r9 w6 ⟨rfl, hd9, hg9, hs9⟩; have F2 := F1.next hd9 hg9; have r1 := nxt_range L k 6 (by decide); have z1 := stp_le L k; clear hd9 hs9; generalize nxt L k 6 = N1 at *; generalize stp L k = k1 at *; clear hg9))
            | (go_at_call 12; ((with_reducible refine (next_any _ _ _ _ k1 2 F2.d hzl (by decide) (by decide)).mono ?_); rintro r9 w7 ⟨rfl, hd9, hg9, hs9⟩; have F3 := F2.next hd9 hg9; have r2 := nxt_range L k1 2 (by decide); have z2 := stp_le L k1; clear hd9 hs9; generalize nxt L k1 2 = N2 at *; generalize stp L k1 = k2 at *; clear hg9))
            | (go_at_call 12; ((with_reducible refine (next_any _ _ _ _ k2 20 F3.d hzl (by decide) (by decide)).mono ?_); rintro r9 w8 ⟨rfl, hd9, hg9, hs9⟩; have F4 := F3.next hd9 hg9; have r3 := nxt_range L k2 20 (by decide); have z3 := stp_le L k2; clear hd9 hs9; generalize nxt L k2 20 = N3 at *; generalize stp L k2 = k3 at *; clear hg9))
            | (go_at_call 12; ((with_reducible refine (next_any _ _ _ _ k3 4 F4.d hzl (by decide) (by decide)).mono ?_); rintro r9 w9 ⟨rfl, hd9, hg9, hs9⟩; have F5 := F4.next hd9 hg9; have r4 := nxt_range L k3 4 (by decide); have z4 := stp_le L k3; clear hd9 hs9; generalize nxt L k3 4 = N4 at *; generalize stp L k3 = k4 at *; clear hg9; have kX := e_lt F5.h; have kg := dice_lt F5.d; have F6 := F5.al (entRow N1 (1 + N2) (1 + N3) 0 N4 0); have hE := heap_alloc_new w9 (entRow N1 (1 + N2) (1 + N3) 0 N4 0)))
            | (go_at_call 12; ((with_reducible refine (next_any _ _ _ _ k4 6 F6.d hzl (by decide) (by decide)).mono ?_); rintro r9 w10 ⟨rfl, hd9, hg9, hs9⟩; have F7 := F6.next hd9 hg9; have r5 := nxt_range L k4 6 (by decide); have z5 := stp_le L k4; clear hd9 hs9; generalize nxt L k4 6 = N5 at *; generalize stp L k4 = k5 at *; have hE := ent_row_grown hg9 hE (by omega); clear hg9; rcases two_ways (N5 == 5) with t5 | t5))
            | (go_at_call 12; ((with_reducible refine (next_any _ _ _ _ k5 12 F7.d hzl (by decide) (by decide)).mono ?_); rintro r9 w11 ⟨rfl, hd9, hg9, hs9⟩; have F8 := F7.next hd9 hg9; have r6 := nxt_range L k5 12 (by decide); have z6 := stp_le L k5; clear hd9 hs9; generalize nxt L k5 12 = N6 at *; generalize stp L k5 = k6 at *; have hE := ent_row_grown hg9 hE (by omega); clear hg9))
            | (go_at_call 13; ((with_reducible refine (refDrop_any _ S N6 sa n d _ F8.s.cut (by omega)).mono ?_); rintro r9 w12 ⟨ta, tn, tc, ga, gn, gc, rfl, ls, lg, h9⟩; have lg := lg.mono (G := (fun b => b ≠ X ∧ b ≠ g)) (fun _ _ h => fol_plus (e_lt F8.h) (dice_lt F8.d) h); have F9 := F8.list h9 ls; clear ls h9 hE))
            | ((with_reducible refine Plan.load_lit 28 (.tmp 8) w9.heap.size ?_ hE Try.underlying28 ?_ ?_ ?_); (· rfl); (· rfl); (· exact entry_info); simp only [Act.put, List.setIfInBounds_toArray, List.set_cons_zero, List.set_cons_succ])
            | (go_at_call 15; ((with_reducible refine (inst_call F7.s.cut (by omega)).mono ?_); rintro r9 w12 ⟨ta, tn, tc, ob, okk, ov, om, oz, oo, hOE, rfl, ls, h9⟩; have F9 := (F7.list h9 ls).al (entRow ob okk ov om oz oo); have hE := e_al (e_on h9 hE (e_lt hE)) (entRow ob okk ov om oz oo); have hO := heap_alloc_new w12 (entRow ob okk ov om oz oo); have hq := (entry_row hO).2.1; have HFI := fun (hn : newer S ⟨N1, 1 + N2, 1 + N3, 0, N4, 0⟩ = true) => follow_install (n := 4) (by decide) (by decide) HS.out.1 HS.out.2 (by omega) hn (show 0 ≤ N4 ∧ N4 < ((4 : Nat) : Int) from by omega); have HNO := fun (hn : newer S ⟨N1, 1 + N2, 1 + N3, 0, N4, 0⟩ = false) => (install_eq (e := ⟨N1, 1 + N2, 1 + N3, 0, N4, 0⟩) HS.out.1).trans (if_neg (by rw [hn]; simp)); have hvI := valid_install (e := ⟨N1, 1 + N2, 1 + N3, 0, N4, 0⟩) HS.out.1; have hlI := install_length S ⟨N1, 1 + N2, 1 + N3, 0, N4, 0⟩; have ht := F9.s.length; rw [hOE] at HFI; obtain ⟨hd, hd1, hd2⟩ := fol_bne okk; try simp only at HFI; rw [hd2] at HFI; clear ls h9 hOE hd2; cases hnw : newer S ⟨N1, 1 + N2, 1 + N3, 0, N4, 0⟩ <;> (first | (have he9 := HNO hnw; rw [he9] at F9 ht; have FZ := F9; have HZ := HS.out.2; have HVZ := HS.out.1; clear HFI HNO F9 hvI hlI) | (obtain ⟨hc1, hc2, hc3⟩ := HFI hnw; clear HFI HNO; generalize installL S ⟨N1, 1 + N2, 1 + N3, 0, N4, 0⟩ = S2 at *))))
            | ((with_reducible refine Plan.load_lit 24 (.tmp 4) X ?_ F9.h Try.underlying24 ?_ ?_ ?_); (· rfl); (· rfl); (· exact cnt_info); simp only [Act.put, List.setIfInBounds_toArray, List.set_cons_zero, List.set_cons_succ])
            | ((with_reducible refine Plan.load_lit 28 (.tmp 14) w12.heap.size ?_ hO Try.underlying28 ?_ ?_ ?_); (· rfl); (· rfl); (· exact entry_info); simp only [Act.put, List.setIfInBounds_toArray, List.set_cons_zero, List.set_cons_succ])
            | (go_at_call 14; ((with_reducible refine (chg_call H (had := hd) ⟨hc1, hc2⟩ F9.l).mono ?_); rintro r9 w13 ⟨ya, yc, ya2, yc2, rfl, ly, h9⟩; have hX := e_on h9 F9.h (e_lt F9.h); have FZ' := F9.cnt h9 ly; clear h9 ly))
            | ((with_reducible refine Plan.store_lit 24 (.tmp 4) _ X ?_ hX ?_ ?_ ?_ ?_ ?_ ?_); rotate_left; (· rfl); (· rfl); (· exact cnt_info); (· rfl); (· simp [Value.oneCell']); simp only [Act.put]; have FZ := FZ'; have HZ := hc3; have HVZ := hvI; clear hX FZ' F9; generalize w13.setRow X #[.slice ya 4 yc, .slice ya2 4 yc2] = w14 at *)
            | (go_at_call 16; ((with_reducible refine (of_call H HZ FZ.s (by omega)).mono ?_); rintro r9 w15 ⟨fa, fc, fa2, fc2, rfl, lf, h9⟩; have FY := (FZ.on h9).al (cntRow fa 4 fc fa2 4 fc2); have hF := heap_alloc_new w15 (cntRow fa 4 fc fa2 4 fc2); have lf := lf.on (Same.alloc w15 (cntRow fa 4 fc fa2 4 fc2))))
            | ((with_reducible refine load_lit_gc 24 (.tmp 4) X ?_ ?_ FY.h Try.underlying24 ?_ ?_ ?_); (· rfl); (· rfl); (· rfl); (· exact cnt_info); simp only [Act.put, List.setIfInBounds_toArray, List.set_cons_zero, List.set_cons_succ])
            | ((with_reducible refine load_lit_gc 24 (.tmp 16) w15.heap.size ?_ ?_ hF Try.underlying24 ?_ ?_ ?_); (· rfl); (· rfl); (· rfl); (· exact cnt_info); simp only [Act.put, List.setIfInBounds_toArray, List.set_cons_zero, List.set_cons_succ])
            | (go_at_call 17; ((with_reducible refine (refCSame_any _ _ _ _ _ _ _ _ _ _ _ _ _ _ _ _ FY.l lf).mono ?_); rintro r9 w16 ⟨rfl, h9⟩; have FW := FY.on h9)))
          · have hF1 := follow_first (n := 4) (cut := N6) HS.out.1 HS.out.2
            have HFD := Lib.hid (fun i e (he : (goneL S N6)[i]? = some e) => follow_drop (n := 4) (cut := N6) (by decide) (by decide) HS.out.1 HS.out.2 (by omega) he 0)
            have HVZ := valid_stay (c := N6) HS.out.1
            have HZ := hF1.2
            have hsg := stay_gone (c := N6) HS.out.1
            have ht := F9.s.length
            have hgl := lg.length
            rw [hF1.1] at F9
            have HFL := Lib.hid (follow_last (n := 4) (S := S) (cut := N6))
            clear hF1
            go_loopw [9, 12] (fun v q wr => ∃ (i : Nat) (xa xa2 : Option Addr) (xc xc2 : Nat), q = .int .i64 (i : Int) ∧ i ≤ gn ∧ v = .bool true ∧ Fol wr w X w.heap.size g L k6 ta tn tc (stayL S N6) xa xa2 xc xc2 (cOf 4 (left S N6 i)) ∧ EList wr (fun b => b ≠ X ∧ b ≠ g) ga gn gc (goneL S N6)) (fun _ q _ => gn - (intOf q).toNat)
            case atStart => exact ⟨0, _, _, _, _, rfl, by omega, rfl, F9, lg⟩
            case round =>
              clear F9 lg
              obtain ⟨i, xa, xa2, xc, xc2, rfl, hi, rfl, F9, lg⟩ := hrel
              by_cases hig : i < gn
              · have higI : (i : Int) < (gn : Int) := by omega
                obtain ⟨gx, e, rfl, he, hat⟩ := lg.ent i hig
                obtain ⟨hc1, hc2⟩ := HFD.out i e he
                have HE := Lib.hid he
                clear he HFL
                obtain ⟨eb, ek, ev, em, ez, eo⟩ := e
                try simp only at hat hc1 hc2
                go_wp2_with fail
                refine Plan.start (fun W => EntAt W gx i ⟨eb, ek, ev, em, ez, eo⟩) [(1, true), (2, true), (3, true), (4, true), (5, true), (0, false), (6, false), (7, true), (8, true), (9, true), (10, false), (11, true)] (by kernel_rfl) (by kernel_rfl) (by kernel_rfl) (by kernel_rfl) hat ?_
                simp only [List.map_cons, List.map_nil, List.getElem?_toArray, List.getElem?_cons_zero, List.getElem?_cons_succ]
                repeat (first | (refine Plan.take ?_ (by rfl) ?_ ?_; rotate_left; (· rintro w9 ⟨u0, u1, u2, u3, u4, u5⟩; go_simp; (try rw [if_neg (by omega)]); all_goals (with_reducible rfl)); simp only [Act.put, List.setIfInBounds_toArray, List.set_cons_zero, List.set_cons_succ]) | (refine Plan.pass (by rfl) ?_; simp only [Act.put, List.setIfInBounds_toArray, List.set_cons_zero, List.set_cons_succ]))
                have F10 := F9.drew
                have lg2 := lg.on (w' := _) (Same.below (Below.refl _ _).drew)
                obtain ⟨x0, x1⟩ := two_row F10.h
                have hat2 : EntAt wr.drew gx i ⟨eb, ek, ev, em, ez, eo⟩ := hat
                refine Plan.make (by rfl) (.agg #[.slice xa 4 xc, .slice xa2 4 xc2]) wr.drew ?_ hat2 ?_
                · go_simp
                simp only [Act.put, List.setIfInBounds_toArray, List.set_cons_zero, List.set_cons_succ]
                refine Plan.call (by rfl) 14 _ ?_ (chg_call H (ob := eb) (ok := ek) (ov := ev) (om := em) (oo := eo) (fb := 0) (fk := 0) (fv := 0) (fm := 0) (fo := 0) (had := true) (is := false) ⟨hc1, hc2⟩ F10.l) ?_
                · go_simp
                rintro r9 w13 ⟨ya, yc, ya2, yc2, rfl, ly, h9⟩
                have hX := e_on h9 F10.h (e_lt F10.h)
                have F11 := F10.cnt h9 ly
                have lg4 := (lg2.on (Same.below h9)).on (Same.row (r := X) (fun h => h.1 rfl) #[.slice ya 4 yc, .slice ya2 4 yc2])
                have hat3 := EntAt.kept hat2 h9 hat2.lt
                obtain ⟨gx', e', hgx, he', hat4⟩ := lg4.ent i hig
                obtain rfl := Option.some.inj hgx
                rw [HE.out] at he'
                obtain rfl := Option.some.inj he'
                clear ly h9 hat lg lg2 F9 F10 x0 x1
                refine ⟨_, rfl, hat3, ?_⟩
                simp only [Act.put, List.setIfInBounds_toArray, List.set_cons_zero, List.set_cons_succ]
                repeat (first | (refine Plan.take ?_ (by rfl) ?_ ?_; rotate_left; (· rintro w9 ⟨u0, u1, u2, u3, u4, u5⟩; go_simp; (try rw [if_neg (by omega)]); all_goals (with_reducible rfl)); simp only [Act.put, List.setIfInBounds_toArray, List.set_cons_zero, List.set_cons_succ]) | (refine Plan.pass (by rfl) ?_; simp only [Act.put, List.setIfInBounds_toArray, List.set_cons_zero, List.set_cons_succ]))
                refine Plan.store (by rfl) 24 (.tmp 4) (.tmp 77) rfl X #[.slice ya 4 yc, .slice ya2 4 yc2] rfl rfl 24 _ hX cnt_info rfl (by simp [Value.oneCell']) hat4 ?_
                simp only [Act.put]
                repeat (first | (refine Plan.take ?_ (by rfl) ?_ ?_; rotate_left; (· rintro w9 ⟨u0, u1, u2, u3, u4, u5⟩; go_simp; (try rw [if_neg (by omega)]); all_goals (with_reducible rfl)); simp only [Act.put, List.setIfInBounds_toArray, List.set_cons_zero, List.set_cons_succ]) | (refine Plan.pass (by rfl) ?_; simp only [Act.put, List.setIfInBounds_toArray, List.set_cons_zero, List.set_cons_succ]))
                refine Plan.ends ?_
                clear hat2 hat3 hat4 hX
                generalize w13.setRow X #[.slice ya 4 yc, .slice ya2 4 yc2] = w14 at *
                go_wp2_with fail
                go_roundw
                case rel => exact ⟨i + 1, _, _, _, _, by go_num, by omega, rfl, F11, lg4⟩
                case measure => simp [intOf]; omega
              · have hnI : ¬ (i : Int) < (gn : Int) := by omega
                have e9 : cOf 4 (left S N6 i) = cOf 4 (stayL S N6) := by
                  rw [show i = (goneL S N6).length by omega]
                  exact HFL.out
                rw [e9] at F9
                have FZ := F9
                clear e9 HFL HFD lg F9
                go_wp2_with (first
                  | (go_at_call 16; ((with_reducible refine (of_call H HZ FZ.s (by omega)).mono ?_); rintro r9 w15 ⟨fa, fc, fa2, fc2, rfl, lf, h9⟩; have FY := (FZ.on h9).al (cntRow fa 4 fc fa2 4 fc2); have hF := heap_alloc_new w15 (cntRow fa 4 fc fa2 4 fc2); have lf := lf.on (Same.alloc w15 (cntRow fa 4 fc fa2 4 fc2))))
                  | ((with_reducible refine load_lit_gc 24 (.tmp 4) X ?_ ?_ FY.h Try.underlying24 ?_ ?_ ?_); (· rfl); (· rfl); (· rfl); (· exact cnt_info); simp only [Act.put, List.setIfInBounds_toArray, List.set_cons_zero, List.set_cons_succ])
                  | ((with_reducible refine load_lit_gc 24 (.tmp 16) w15.heap.size ?_ ?_ hF Try.underlying24 ?_ ?_ ?_); (· rfl); (· rfl); (· rfl); (· exact cnt_info); simp only [Act.put, List.setIfInBounds_toArray, List.set_cons_zero, List.set_cons_succ])
                  | (go_at_call 17; ((with_reducible refine (refCSame_any _ _ _ _ _ _ _ _ _ _ _ _ _ _ _ _ FY.l lf).mono ?_); rintro r9 w16 ⟨rfl, h9⟩; have FW := FY.on h9)))
                go_roundw
                case rel => exact ⟨j + 1, _, _, _, _, _, _, _, _, _, by go_num, by omega, rfl, by omega, by omega, Lib.hid ⟨HVZ, HZ⟩, FW⟩
                case measure => simp [intOf]; omega
          · go_roundw
            case rel => exact ⟨j + 1, _, _, _, _, _, _, _, _, _, by go_num, by omega, rfl, by omega, by omega, Lib.hid ⟨HVZ, HZ⟩, FW⟩
            case measure => simp [intOf]; omega
          · go_roundw
            case rel => exact ⟨j + 1, _, _, _, _, _, _, _, _, _, by go_num, by omega, rfl, by omega, by omega, Lib.hid ⟨HVZ, HZ⟩, FW⟩
            case measure => simp [intOf]; omega
      · have hjI : ¬ (j : Int) < 40 := by omega
        go_wp2_with (first
          | (go_at_call 7; ((with_reducible refine (HW.out _).mono ?_); rintro r9 w99 ⟨rfl, h99⟩)))
        go_ret
        exact ⟨rfl, F0.b.trans (h99.mono F0.b.size)⟩
  · have hli' := hli
    rw [decide_eq_false hlen] at hli'
    have HLI := Lib.hid hli'
    clear hli hli'
    go_enter Try.func4, Try.ntmps4
    go_wp2_with (first
      | (go_at_call 8; ((with_reducible refine HLI.out.mono ?_); rintro e w0 ⟨rfl, rfl⟩))
      | (go_at_call 7; ((with_reducible refine (HW.out _).mono ?_); rintro r9 w99 ⟨rfl, h99⟩)))
    go_ret
    exact ⟨rfl, h99⟩
end Go.Proofs.Ytigmjpkhpoolkaa.Ents
