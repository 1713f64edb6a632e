
/- The walk of LayoutDivides. -/
import Derived.Test.YteifpflnadjjkaaLayExact
import Derived.Test.YteifpflnadjjkaaMakeSmall
namespace Go.Proofs.Yteifpflnadjjkaa
open Go.RowKit Plan LayMath
/-- a small configuration is possible -/
theorem small_conf (zs : List Int) (k : Nat) : ∃ (n : Nat) (X R : Int), (1 ≤ n ∧ n ≤ 3) ∧ (6 ≤ X ∧ X ≤ 8) ∧ (6 ≤ R ∧ R ≤ 25) ∧ smZ zs k = 2 * (n : Int) + X ∧ slotN (smS zs k) (smB zs k) = (n : Int) ∧
    smB zs k + 2 ≤ (n : Int) * smS zs k ∧ (X - 3) * (smS zs k - 1) = R ∧ errN (smZ zs k) (smS zs k) (smB zs k) (smQ zs k) (smD zs k) (smH zs k) = 0 ∧
    layV (smZ zs k) (smS zs k) (smB zs k) (smQ zs k) = .agg #[.int .i64 (n : Int), .int .i64 (2 * (n : Int)), .int .i64 X, .int .i64 (R - smQ zs k - 1)] := by
  obtain ⟨⟨s1, s2⟩, ⟨b1, b2⟩, ⟨q1, q2⟩, ⟨d1, d2⟩, ⟨h1, h2⟩, ⟨t1, t2⟩⟩ := small_range zs k
  unfold smZ
  generalize smS zs k = s at *
  generalize smB zs k = b at *
  generalize smQ zs k = q at *
  generalize smD zs k = d at *
  generalize smH zs k = h at *
  generalize smT zs k = t at *
  obtain ⟨l1, -⟩ := slot_bounds s1 (show s ≤ 64 by omega) b1 (show b ≤ 128 by omega)
  have l2 : slotN s b < 4 := by unfold slotN; exact (Int.ediv_lt_iff_lt_mul (by omega)).2 (by omega)
  have l3 := slot_room (b := b) s1
  have hd : dataN (2 * slotN s b + 6 + t) s b = 6 + t := by unfold dataN; omega
  have hR : 6 ≤ (6 + t - 3) * (s - 1) ∧ (6 + t - 3) * (s - 1) ≤ 25 := by
    have h1 : (6 + t - 3) * (s - 1) ≤ 5 * (s - 1) := Int.mul_le_mul_of_nonneg_right (by omega) (by omega)
    have h2 : 3 * (s - 1) ≤ (6 + t - 3) * (s - 1) := Int.mul_le_mul_of_nonneg_right (by omega) (by omega)
    omega
  have hc : capN (2 * slotN s b + 6 + t) s b q = (6 + t - 3) * (s - 1) - q - 1 := by unfold capN; rw [hd]
  have hi : inR (2 * slotN s b + 6 + t) s b q d h = true := inR_iff.2 (by omega)
  have hf : fits (2 * slotN s b + 6 + t) s b q = true := by
    unfold fits
    rw [hd, hc]
    simp
    omega
  have he := errN_fit hi hf
  refine ⟨(slotN s b).toNat, 6 + t, _, ⟨by omega, by omega⟩, ⟨by omega, by omega⟩, hR, ?_, ?_, ?_, rfl, he, ?_⟩
  · rw [Int.toNat_of_nonneg (by omega)]; omega
  · rw [Int.toNat_of_nonneg (by omega)]
  · rw [Int.toNat_of_nonneg (by omega)]; exact l3
  · unfold layV
    rw [Int.toNat_of_nonneg (by omega), hd, hc]
/-- the list of a slot, opened: a block and its cells -/
theorem listAt_upto {w : World} {v : Value} {P : Int} {n : Nat} (h : ListAt w v (upto P n)) (hn : 1 ≤ n) : ∃ g cap, v = .slice (some ⟨g, 0, none⟩) n cap ∧ g < w.heap.size ∧ ∀ i : Nat, i < n → w.cell? ⟨g, i, none⟩ = some (.int .i64 (P + (i : Int))) := by
  rcases h with ⟨_, h⟩ | ⟨g, cap, h1, _, h2, h3⟩
  · have := congrArg List.length h
    rw [upto_length] at this
    simp at this
    omega
  · rw [upto_length] at h1
    refine ⟨g, cap, h1, h2, fun i hi => h3 i _ ?_⟩
    unfold upto
    rw [List.getElem?_map, List.getElem?_range hi]
    rfl
theorem below_small {a b c : World} {B g : Nat} (h : Below B a b) (hg : b.grownBy c (some g)) (hB : B ≤ g) (hs : B ≤ b.heap.size) : Below B a c :=
  h.grown hg hs (fun k hk => by obtain rfl := Option.some.inj hk; exact hB)
/-- how many of the first k places of both slots are i -/
def cnt (i n k : Int) : Int := (if i < k then 1 else 0) + (if n ≤ i ∧ i < n + k then 1 else 0)
theorem cnt_zero {i n : Int} (h : 0 ≤ i) : cnt i n 0 = 0 := by unfold cnt; rw [if_neg (by omega), if_neg (by omega)]; rfl
theorem cnt_same {i n k : Int} (h1 : k ≠ i) (h2 : n + k ≠ i) : cnt i n (k + 1) = cnt i n k := by
  unfold cnt
  congr 1
  · by_cases h : i < k
    · rw [if_pos h, if_pos (by omega)]
    · rw [if_neg h, if_neg (by omega)]
  · by_cases h : n ≤ i ∧ i < n + k
    · rw [if_pos h, if_pos (by omega)]
    · rw [if_neg h, if_neg (by omega)]
theorem cnt_more {i n k : Int} (h0 : 0 ≤ k) (hk : k < n) (h : k = i ∨ n + k = i) : cnt i n (k + 1) = cnt i n k + 1 := by
  unfold cnt
  rcases h with rfl | rfl
  · rw [if_pos (by omega), if_neg (by omega), if_neg (by omega), if_neg (by omega)]
    rfl
  · rw [if_neg (by omega), if_pos (by omega), if_neg (by omega), if_neg (by omega)]
    rfl
theorem cnt_end {i n : Int} (hn : 0 ≤ n) : cnt i n n = if i < 2 * n then 1 else 0 := by
  unfold cnt
  by_cases h1 : i < n
  · rw [if_pos h1, if_neg (by omega), if_pos (by omega)]; rfl
  · by_cases h2 : i < 2 * n
    · rw [if_neg h1, if_pos (by omega), if_pos h2]; rfl
    · rw [if_neg h1, if_neg (by omega), if_neg h2]; rfl
theorem cnt_range (i n k : Int) : 0 ≤ cnt i n k ∧ cnt i n k ≤ 2 := by
  unfold cnt
  split <;> split <;> omega
set_option maxHeartbeats 4000000 in
set_option maxRecDepth 20000 in
theorem layDivides_any (a : Option Addr) (len cap : Nat) (zs : List Int) (w : World) (hrow : IsRow .i64 w a len cap zs) :
    Calls Try.prog 5 #[.slice a len cap] w fun e w' => e = .returned (.bool true) ∧ Below w.heap.size w w' := by
  have hli := light_any a len cap w
  by_cases hlen : (len : Int) ≤ 300
  · rw [decide_eq_true hlen] at hli
    have hro := roll_any a len cap zs w hrow (by omega)
    have hzl : (zs.take len).length ≤ 100000 := by rw [List.length_take]; omega
    generalize zs.take len = L at hro hzl
    have hsm := fun W g h => small_any W w.heap.size g L 0 h hzl
    obtain ⟨⟨s1, s2⟩, ⟨b1, b2⟩, ⟨q1, q2⟩, ⟨d1, d2⟩, ⟨h1, h2⟩, -⟩ := small_range L 0
    obtain ⟨n, X, R, ⟨n1, n2⟩, ⟨X1, X2⟩, ⟨R1, R2⟩, hZ, hn, hroom, hR, hE, hLV⟩ := small_conf L 0
    have ho := layOf_any (smZ L 0) (smS L 0) (smB L 0) (smQ L 0) (smD L 0) (smH L 0)
    rw [of_zero hE, hLV] at ho
    have hs0 := slots_any (smZ L 0) (smS L 0) (smB L 0) (smQ L 0) (smD L 0) (smH L 0) 0
    have hs1 := slots_any (smZ L 0) (smS L 0) (smB L 0) (smQ L 0) (smD L 0) (smH L 0) 1
    rw [slotsL_yes hE (.inl rfl) hn] at hs0
    rw [slotsL_yes hE (.inr rfl) hn] at hs1
    have hdd := fun i => isData_any (smZ L 0) (smS L 0) (smB L 0) (smQ L 0) (smD L 0) (smH L 0) i
    have hdv : ∀ i, isN (smZ L 0) (smS L 0) (smB L 0) (smQ L 0) (smD L 0) (smH L 0) i = (decide (2 * (n : Int) ≤ i) && decide (i < smZ L 0)) := fun i => by rw [isN_yes hE, hn]
    simp only [hdv] at hdd
    unfold SmallPost at hsm
    unfold RollPost at hro
    unfold SlotPost at hs0 hs1
    unfold confV at hsm ho hs0 hs1 hdd
    rw [hZ] at hsm ho hs0 hs1 hdd
    clear hZ hn hE hLV hdv
    generalize smS L 0 = s at *
    generalize smB L 0 = b at *
    generalize smQ L 0 = q at *
    generalize smD L 0 = d at *
    generalize smH L 0 = h at *
    rw [show (0 : Int) * (n : Int) = 0 by omega] at hs0
    rw [show (1 : Int) * (n : Int) = (n : Int) by omega] at hs1
    obtain ⟨M, hMd⟩ : ∃ M, (n : Int) * s = M := ⟨_, rfl⟩
    have hM2 : (n : Int) * s ≤ 3 * s := Int.mul_le_mul_of_nonneg_right (by omega) (by omega)
    rw [hMd] at hM2 hroom
    have hM : wrap64 ((n : Int) * s) = M := by rw [hMd]; unfold wrap64; omega
    have hW : wrap64 ((X - 3) * (s - 1)) = R := by rw [hR]; unfold wrap64; omega
    have hC : (R - q - 1 + q + 1 != R) = false := by simp; omega
    clear hR hMd
    have HO := Lib.hid ho
    have HR := Lib.hid hro
    have HSM := Lib.hid hsm
    have HS0 := Lib.hid hs0
    have HS1 := Lib.hid hs1
    have HD := Lib.hid hdd
    have HLI := Lib.hid hli
    clear ho hro hsm hs0 hs1 hdd hli
    go_enter Try.func5, Try.ntmps5
    go_wp2_with (first
      | (go_at_call 18; ((with_reducible refine HLI.out.mono ?_); rintro e w0 ⟨rfl, rfl⟩))
      | (go_at_call 20; ((with_reducible refine HR.out.mono ?_); rintro e w1 ⟨g, rfl, hd1, hb1⟩))
      | (go_at_call 19; ((with_reducible refine (HSM.out _ _ hd1).mono ?_); rintro e w2 ⟨rfl, hd2, hg2⟩; have b2' := (below_small hb1 hg2 (dice_base hd1) hb1.size).alloc (below_small hb1 hg2 (dice_base hd1) hb1.size).size (confRow (2 * (n : Int) + X) s b q d h); have hx2 := heap_alloc_new w2 (confRow (2 * (n : Int) + X) s b q d h); obtain ⟨c0, c1, c2, c3, c4, c5⟩ := conf6 hx2))
      | (go_at_call 7; ((with_reducible refine (HO.out _).mono ?_); rintro e w3 ⟨rfl, hb3⟩; have hx3 := lay_al (lay_on hb3 hx2 (lay_lt hx2)) (layRow n (2 * (n : Int)) X (R - q - 1)); have hy3 := heap_alloc_new w3 (layRow n (2 * (n : Int)) X (R - q - 1)); have b3 := (b2'.trans (hb3.mono b2'.size)).alloc (b2'.trans (hb3.mono b2'.size)).size (layRow n (2 * (n : Int)) X (R - q - 1)); clear c0 c1 c2 c3 c4 c5)))
    have l2 := lay_lt hx3
    have l3 := lay_lt hy3
    generalize w3.alloc (.cells #[.int .i64 (n : Int), .int .i64 (2 * (n : Int)), .int .i64 X, .int .i64 (R - q - 1)] 25) = W at *
    generalize w2.heap.size = G2 at *
    generalize w3.heap.size = G3 at *
    obtain ⟨d0, d1, d2, d3, d4, d5⟩ := conf6 hx3
    have hS0 : Held W.heap.size W W.drew := held_same
    refine Plan.start (Held W.heap.size W) [(0, true), (2, true), (1, false), (3, false), (4, true), (5, true)] (by kernel_rfl) (by kernel_rfl) (by kernel_rfl) (by kernel_rfl) hS0 ?_
    simp only [List.map_cons, List.map_nil, List.getElem?_toArray, List.getElem?_cons_zero, List.getElem?_cons_succ]
    repeat (first | (refine Plan.take ?_ (by rfl) ?_ ?_; rotate_left; (· rintro w9 ⟨hS9, -⟩; go_simp; (try rw [if_neg (by omega)]); all_goals (with_reducible rfl)); simp only [Act.put, List.setIfInBounds_toArray, List.set_cons_zero, List.set_cons_succ]) | (refine Plan.pass (by rfl) ?_; simp only [Act.put, List.setIfInBounds_toArray, List.set_cons_zero, List.set_cons_succ]))
    refine Plan.call (by rfl) 13 _ ?_ (HS0.out _) ?_
    · go_simp
    rintro e v1 ⟨la, rfl, hla, hbv1⟩
    have hSv1 := held_call (Nat.le_refl _) hS0 hbv1
    refine ⟨_, rfl, hSv1, ?_⟩
    simp only [Act.put, List.setIfInBounds_toArray, List.set_cons_zero, List.set_cons_succ]
    repeat (first | (refine Plan.take ?_ (by rfl) ?_ ?_; rotate_left; (· rintro w9 ⟨hS9, -⟩; go_simp; (try rw [if_neg (by omega)]); all_goals (with_reducible rfl)); simp only [Act.put, List.setIfInBounds_toArray, List.set_cons_zero, List.set_cons_succ]) | (refine Plan.pass (by rfl) ?_; simp only [Act.put, List.setIfInBounds_toArray, List.set_cons_zero, List.set_cons_succ]))
    refine Plan.call (by rfl) 13 _ ?_ (HS1.out _) ?_
    · go_simp
    rintro e v2 ⟨lb, rfl, hlb, hbv2⟩
    have hSv2 := held_call (Nat.le_refl _) hSv1 hbv2
    obtain ⟨ga, ca, rfl, ga1, ga2⟩ := listAt_upto (hla.on hbv2) n1
    obtain ⟨gb, cb, rfl, gb1, gb2⟩ := listAt_upto hlb n1
    refine ⟨_, rfl, hSv2, ?_⟩
    simp only [Act.put, List.setIfInBounds_toArray, List.set_cons_zero, List.set_cons_succ]
    repeat (first | (refine Plan.take ?_ (by rfl) ?_ ?_; rotate_left; (· rintro w9 ⟨hS9, -⟩; go_simp; (try rw [if_neg (by omega)]); all_goals (with_reducible rfl)); simp only [Act.put, List.setIfInBounds_toArray, List.set_cons_zero, List.set_cons_succ]) | (refine Plan.pass (by rfl) ?_; simp only [Act.put, List.setIfInBounds_toArray, List.set_cons_zero, List.set_cons_succ]))
    refine Plan.ends ?_
    have hx4 := lay_on hSv2.2 hx3 l2
    have hy4 := lay_on hSv2.2 hy3 l3
    have b4 := b3.trans (hSv2.2.mono b3.size)
    have ga1' : ga < v2.heap.size := ga1
    clear d0 d1 d2 d3 d4 d5 hS0 hSv1 hSv2 hla hlb hbv1 hbv2 hx3 hy3 l2 l3 b3 hd1 hd2 hg2 hb1 hb3 b2' hx2
    obtain ⟨l2, d0, d1, d2, d3, e4, e5⟩ : G2 < v2.heap.size ∧ _ := ⟨lay_lt hx4, conf6 hx4⟩
    obtain ⟨l3, e0, e1, e2, e3⟩ := lay4 hy4
    go_wp2_with fail
    have HX := Lib.hid (fun wr (hb : Below v2.heap.size v2 wr) => lay_on hb hx4 l2)
    have HY := Lib.hid (fun wr (hb : Below v2.heap.size v2 wr) => lay_on hb hy4 l3)
    have HA := Lib.hid (fun wr (hb : Below v2.heap.size v2 wr) (i : Nat) (hi : i < n) => (hb.cell (p := ⟨ga, i, none⟩) ga1).trans (ga2 i hi))
    have HB := Lib.hid (fun wr (hb : Below v2.heap.size v2 wr) (i : Nat) (hi : i < n) => (hb.cell (p := ⟨gb, i, none⟩) gb1).trans (gb2 i hi))
    clear d0 d1 d2 d3 e4 e5 e0 e1 e2 e3 hx4 hy4 ga1 ga2 gb1 gb2 ga1' l2 l3 hW hC hM hM2 hroom
    go_loopw [8] (fun c wr => ∃ I : Int, c = .int .i64 I ∧ 0 ≤ I ∧ I ≤ 2 * (n : Int) + X ∧ Below v2.heap.size v2 wr) (fun c _ => (2 * (n : Int) + X).toNat - (intOf c).toNat)
    case atStart => exact ⟨0, rfl, by omega, by omega, Below.refl _ _⟩
    case round =>
      obtain ⟨I, rfl, hI0, hI1, hb⟩ := hrel
      obtain ⟨c0, c1, c2, c3, c4, c5⟩ := conf6 (HX.out wr hb)
      by_cases hlt : I < 2 * (n : Int) + X
      · go_wp2_with fail
        clear c0 c1 c2 c3 c4 c5
        go_loopw [9, 10] (fun c k wr => ∃ j : Nat, c = .int .i64 (cnt I (n : Int) (j : Int)) ∧ k = .int .i64 (j : Int) ∧ j ≤ n ∧ Below v2.heap.size v2 wr) (fun _ k _ => n - (intOf k).toNat)
        case atStart => exact ⟨0, congrArg (Value.int .i64) (cnt_zero hI0).symm, rfl, by omega, hb⟩
        case round =>
          obtain ⟨j, rfl, rfl, hj, hb2⟩ := hrel
          obtain ⟨-, e0, e1, e2, e3⟩ := lay4 (HY.out wr hb2)
          obtain ⟨k0, k1⟩ := cnt_range I (n : Int) (j : Int)
          by_cases hjl : j < n
          · have hjI : (j : Int) < (n : Int) := by omega
            obtain ⟨U, hU⟩ : ∃ U : Int, U = (j : Int) := ⟨_, rfl⟩
            obtain ⟨V, hV⟩ : ∃ V : Int, V = (n : Int) + (j : Int) := ⟨_, rfl⟩
            have u1 := HA.out wr hb2 j hjl
            have v1 := HB.out wr hb2 j hjl
            rw [Int.zero_add, ← hU] at u1
            rw [← hV] at v1
            have hs := fun (h1 : U ≠ I) (h2 : V ≠ I) => cnt_same (i := I) (n := (n : Int)) (k := (j : Int)) (by omega) (by omega)
            have hm := fun (h1 : U = I ∨ V = I) => cnt_more (i := I) (n := (n : Int)) (k := (j : Int)) (by omega) hjI (by omega)
            have hjj : ((j + 1 : Nat) : Int) = (j : Int) + 1 := by omega
            rw [← hjj] at hs hm
            clear hU hV
            generalize cnt I (n : Int) (j : Int) = C at *
            have HS := Lib.hid hs
            have HM := Lib.hid hm
            clear hs hm hjj
            by_cases hUI : U = I
            · have t1 : (U == I) = true := by simpa using hUI
              go_wp2_with fail
              go_roundw
              case rel => exact ⟨j + 1, congrArg (Value.int .i64) (HM.out (.inl hUI)).symm, by go_num, by omega, hb2⟩
              case measure => simp [intOf]; omega
            · have t1 : (U == I) = false := by simpa using hUI
              by_cases hVI : V = I
              · have t2 : (V == I) = true := by simpa using hVI
                go_wp2_with fail
                go_roundw
                case rel => exact ⟨j + 1, congrArg (Value.int .i64) (HM.out (.inr hVI)).symm, by go_num, by omega, hb2⟩
                case measure => simp [intOf]; omega
              · have t2 : (V == I) = false := by simpa using hVI
                go_wp2_with fail
                go_roundw
                case rel => exact ⟨j + 1, congrArg (Value.int .i64) (HS.out hUI hVI).symm, by go_num, by omega, hb2⟩
                case measure => simp [intOf]; omega
          · obtain rfl : j = n := by omega
            obtain ⟨c0, c1, c2, c3, c4, c5⟩ := conf6 (HX.out wr hb2)
            have hce := cnt_end (i := I) (n := (j : Int)) (by omega)
            have hD := HD.out I
            by_cases h2 : I < 2 * (j : Int)
            · rw [if_pos h2] at hce
              rw [hce]
              rw [decide_eq_false (show ¬ 2 * (j : Int) ≤ I by omega), Bool.false_and] at hD
              have HDD := Lib.hid hD
              clear hD hce k0 k1
              go_wp2_with (first
                | (go_at_call 15; ((with_reducible refine (HDD.out _).mono ?_); rintro e w6 ⟨rfl, hb6⟩; have b6 := hb2.trans (hb6.mono hb2.size))))
              go_roundw
              case rel => exact ⟨I + 1, by go_num, by omega, by omega, b6⟩
              case measure => simp [intOf]; omega
            · rw [if_neg h2] at hce
              rw [hce]
              rw [decide_eq_true (show 2 * (j : Int) ≤ I by omega), decide_eq_true hlt, Bool.true_and] at hD
              have HDD := Lib.hid hD
              clear hD hce k0 k1
              go_wp2_with (first
                | (go_at_call 15; ((with_reducible refine (HDD.out _).mono ?_); rintro e w6 ⟨rfl, hb6⟩; have b6 := hb2.trans (hb6.mono hb2.size))))
              go_roundw
              case rel => exact ⟨I + 1, by go_num, by omega, by omega, b6⟩
              case measure => simp [intOf]; omega
      · obtain rfl : I = 2 * (n : Int) + X := by omega
        go_wp2_with (first
          | (go_at_call 9; ((with_reducible refine (awake_lay _).mono ?_); rintro e w7 ⟨rfl, hb7⟩)))
        go_ret
        exact ⟨rfl, b4.trans ((hb.trans (hb7.mono hb.size)).mono b4.size)⟩
  · rw [decide_eq_false hlen] at hli
    have HLI := Lib.hid hli
    clear hli
    go_enter Try.func5, Try.ntmps5
    go_wp2_with (first
      | (go_at_call 18; ((with_reducible refine HLI.out.mono ?_); rintro e w0 ⟨rfl, rfl⟩))
      | (go_at_call 9; ((with_reducible refine (awake_lay _).mono ?_); rintro e w1 ⟨rfl, hb1⟩)))
    go_ret
    exact ⟨rfl, hb1⟩
end Go.Proofs.Yteifpflnadjjkaa
