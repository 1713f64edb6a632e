
/- The walk of LayoutGrows. -/
import Derived.Test.YteifpflnadjjkaaLayDivides
namespace Go.Proofs.Yteifpflnadjjkaa
open Go.RowKit Plan LayMath
/-- a greater configuration -/
theorem grow_conf {n : Nat} {X R s b q d h Z z' q' : Int} (s1 : 3 ≤ s) (s2 : s ≤ 6) (b1 : 1 ≤ b) (b2 : b ≤ 6) (q1 : 1 ≤ q) (d1 : 1 ≤ d) (d2 : d ≤ 3) (h1 : 1 ≤ h) (h2 : h ≤ 3)
    (X1 : 6 ≤ X) (R1 : 6 ≤ R) (R2 : R ≤ 25) (hn : slotN s b = (n : Int)) (hZ : Z = 2 * (n : Int) + X) (hR : (X - 3) * (s - 1) = R) (n2 : n ≤ 3)
    (z1 : Z ≤ z') (z2 : z' ≤ 32) (g1 : q ≤ q') (g2 : q' ≤ 4) :
    ∃ D9 C9 P : Int, (6 ≤ D9 ∧ D9 ≤ 32) ∧ (-10 ≤ C9 ∧ C9 ≤ 200) ∧ (0 ≤ P ∧ P ≤ 200) ∧ (∀ w : World, Calls Try.prog 7 #[.agg #[.int .i64 z', .int .i64 s, .int .i64 b, .int .i64 q', .int .i64 d, .int .i64 h]] w fun e w' => e = .returned (.tuple #[.agg #[.int .i64 (n : Int), .int .i64 (2 * (n : Int)), .int .i64 D9, .int .i64 C9], .int .i64 0]) ∧ Below w.heap.size w w') ∧
      wrap64 ((z' - Z) * (s - 1)) = P ∧ (D9 - X == z' - Z) = true ∧ (C9 - (R - q - 1) == P - (q' - q)) = true := by
  have hd : dataN z' s b = X + (z' - Z) := by unfold dataN; omega
  have hmul : (X + (z' - Z) - 3) * (s - 1) = R + (z' - Z) * (s - 1) := by
    rw [← hR, show X + (z' - Z) - 3 = (X - 3) + (z' - Z) by omega, Int.add_mul]
  have hP1 : (z' - Z) * (s - 1) ≤ 26 * (s - 1) := Int.mul_le_mul_of_nonneg_right (by omega) (by omega)
  have hP0 : 0 ≤ (z' - Z) * (s - 1) := Int.mul_nonneg (by omega) (by omega)
  have hc : capN z' s b q' = R + (z' - Z) * (s - 1) - q' - 1 := by unfold capN; rw [hd, hmul]
  generalize (z' - Z) * (s - 1) = P at *
  have hi : inR z' s b q' d h = true := inR_iff.2 (by omega)
  have hf : fits z' s b q' = true := by
    unfold fits
    rw [hd, hc]
    simp
    omega
  have ho := layOf_any z' s b q' d h
  rw [of_zero (errN_fit hi hf)] at ho
  unfold layV confV at ho
  rw [hn, hd, hc] at ho
  exact ⟨X + (z' - Z), R + P - q' - 1, P, by omega, by omega, by omega, ho, by unfold wrap64; omega, by simp; omega, by simp; omega⟩
theorem lay_u8 {u : Int} (h : (Lit.int .u8 u).wf = true) : 0 ≤ u ∧ u ≤ 255 := by
  simp [Lit.wf, IntKind.min, IntKind.max, IntKind.signed, IntKind.bits] at h
  omega
set_option maxHeartbeats 8000000 in
set_option maxRecDepth 20000 in
theorem layGrows_any (a : Option Addr) (len cap : Nat) (zs : List Int) (u v : Int) (w : World) (hrow : IsRow .i64 w a len cap zs) (hu : (Lit.int .u8 u).wf = true) (hv : (Lit.int .u8 v).wf = true) :
    Calls Try.prog 6 #[.slice a len cap, .int .u8 u, .int .u8 v] w fun e w' => e = .returned (.bool true) ∧ Below w.heap.size w w' := by
  have hli := light_any a len cap w
  by_cases hlen : (len : Int) ≤ 300
  · rw [decide_eq_true hlen] at hli
    have hro := roll_any a len cap zs w hrow (by omega)
    have hzl : (zs.take len).length ≤ 100000 := by rw [List.length_take]; omega
    generalize zs.take len = L at hro hzl
    have hsm := fun W g h => small_any W w.heap.size g L 0 h hzl
    obtain ⟨⟨s1, s2⟩, ⟨b1, b2⟩, ⟨q1, q2⟩, ⟨d1, d2⟩, ⟨h1, h2⟩, -⟩ := small_range L 0
    obtain ⟨n, X, R, ⟨n1, n2⟩, ⟨X1, X2⟩, ⟨R1, R2⟩, hZ, hn, hroom, hR, hE, hLV⟩ := small_conf L 0
    have ho := layOf_any (smZ L 0) (smS L 0) (smB L 0) (smQ L 0) (smD L 0) (smH L 0)
    rw [of_zero hE, hLV] at ho
    unfold SmallPost at hsm
    unfold RollPost at hro
    unfold confV at hsm ho
    clear hE hLV hroom
    generalize smZ L 0 = Z at *
    generalize smS L 0 = s at *
    generalize smB L 0 = b at *
    generalize smQ L 0 = q at *
    generalize smD L 0 = d at *
    generalize smH L 0 = h at *
    have hgr := fun z' q' => @grow_conf n X R s b q d h Z z' q' s1 s2 b1 b2 q1 d1 d2 h1 h2 X1 R1 R2 hn hZ hR n2
    obtain ⟨u0, u1⟩ := lay_u8 hu
    obtain ⟨v0, v1⟩ := lay_u8 hv
    have e1 : wrap64 u = u := by unfold wrap64; omega
    have e2 : wrap64 v = v := by unfold wrap64; omega
    obtain ⟨U, e3⟩ : ∃ U, u.tmod 20 = U := ⟨_, rfl⟩
    obtain ⟨V, e4⟩ : ∃ V, v.tmod 3 = V := ⟨_, rfl⟩
    have eU : 0 ≤ U ∧ U ≤ 19 := by rw [← e3, Int.tmod_eq_emod_of_nonneg u0]; omega
    have eV : 0 ≤ V ∧ V ≤ 2 := by rw [← e4, Int.tmod_eq_emod_of_nonneg v0]; omega
    have Z1 : 8 ≤ Z := by omega
    have Z2 : Z ≤ 14 := by omega
    clear hZ hn hR
    generalize 2 * (n : Int) = N2 at *
    generalize hC1 : R - q - 1 = C1 at *
    have c11 : -10 ≤ C1 ∧ C1 ≤ 30 := by omega
    clear hC1
    obtain ⟨eU0, eU1⟩ := eU
    obtain ⟨eV0, eV1⟩ := eV
    obtain ⟨c11, c12⟩ := c11
    have HO := Lib.hid ho
    have HR := Lib.hid hro
    have HSM := Lib.hid hsm
    have HLI := Lib.hid hli
    have HGR := Lib.hid hgr
    clear ho hro hsm hli hgr
    by_cases hz : Z + U < 32
    all_goals by_cases hq : q + V < 4
    · obtain ⟨D9, C9, P, ⟨D1, D2⟩, ⟨C91, C92⟩, ⟨P1, P2⟩, hof, hP, t1, t2⟩ := HGR.out (Z + U) (q + V) (by omega) (by omega) (by omega) (by omega)
      have HOF := Lib.hid hof
      clear hof
      go_enter Try.func6, Try.ntmps6
      go_wp2_with (first
        | (go_at_call 18; ((with_reducible refine HLI.out.mono ?_); rintro e w0 ⟨rfl, rfl⟩))
        | (go_at_call 20; ((with_reducible refine HR.out.mono ?_); rintro e w1 ⟨g, rfl, hd1, hb1⟩))
        | (go_at_call 19; ((with_reducible refine (HSM.out _ _ hd1).mono ?_); rintro e w2 ⟨rfl, hd2, hg2⟩; have b2' := ((below_small hb1 hg2 (dice_base hd1) hb1.size).alloc (below_small hb1 hg2 (dice_base hd1) hb1.size).size (confRow Z s b q d h)).alloc ((below_small hb1 hg2 (dice_base hd1) hb1.size).alloc (below_small hb1 hg2 (dice_base hd1) hb1.size).size (confRow Z s b q d h)).size (confRow (Z + U) s b (q + V) d h); have hx2 := heap_first w2 (confRow Z s b q d h) (confRow (Z + U) s b (q + V) d h); have hy2 := heap_second w2 (confRow Z s b q d h) (confRow (Z + U) s b (q + V) d h)))
        | (go_at_call 7; ((with_reducible refine (HO.out _).mono ?_); rintro e w3 ⟨rfl, hb3⟩; have hx3 := lay_al (lay_on hb3 hx2 (lay_lt hx2)) (layRow n N2 X C1); have hy3 := lay_al (lay_on hb3 hy2 (lay_lt hy2)) (layRow n N2 X C1); have hz3 := heap_alloc_new w3 (layRow n N2 X C1); have b3 := (b2'.trans (hb3.mono b2'.size)).alloc (b2'.trans (hb3.mono b2'.size)).size (layRow n N2 X C1); obtain ⟨c0, c1, c2, c3, c4, c5⟩ := conf6 hy3))
        | (go_at_call 7; ((with_reducible refine (HOF.out _).mono ?_); rintro e w4 ⟨rfl, hb4⟩; clear c0 c1 c2 c3 c4 c5; have hx4 := lay_al (lay_on hb4 hx3 (lay_lt hx3)) (layRow n N2 D9 C9); have hy4 := lay_al (lay_on hb4 hy3 (lay_lt hy3)) (layRow n N2 D9 C9); have hz4 := lay_al (lay_on hb4 hz3 (lay_lt hz3)) (layRow n N2 D9 C9); have b4 := (b3.trans (hb4.mono b3.size)).alloc (b3.trans (hb4.mono b3.size)).size (layRow n N2 D9 C9); obtain ⟨c0, c1, c2, c3, c4, c5⟩ := conf6 hx4; obtain ⟨d0, d1, d2, d3, d4, d5⟩ := conf6 hy4; obtain ⟨y4, e0, e1, e2, e3⟩ := lay4 hz4))
        | (go_at_call 9; ((with_reducible refine (awake_lay _).mono ?_); rintro e w5 ⟨rfl, hb5⟩)))
      go_ret
      exact ⟨rfl, b4.trans (hb5.mono b4.size)⟩
    · obtain ⟨D9, C9, P, ⟨D1, D2⟩, ⟨C91, C92⟩, ⟨P1, P2⟩, hof, hP, t1, t2⟩ := HGR.out (Z + U) 4 (by omega) (by omega) (by omega) (by omega)
      have HOF := Lib.hid hof
      clear hof
      go_enter Try.func6, Try.ntmps6
      go_wp2_with (first
        | (go_at_call 18; ((with_reducible refine HLI.out.mono ?_); rintro e w0 ⟨rfl, rfl⟩))
        | (go_at_call 20; ((with_reducible refine HR.out.mono ?_); rintro e w1 ⟨g, rfl, hd1, hb1⟩))
        | (go_at_call 19; ((with_reducible refine (HSM.out _ _ hd1).mono ?_); rintro e w2 ⟨rfl, hd2, hg2⟩; have b2' := ((below_small hb1 hg2 (dice_base hd1) hb1.size).alloc (below_small hb1 hg2 (dice_base hd1) hb1.size).size (confRow Z s b q d h)).alloc ((below_small hb1 hg2 (dice_base hd1) hb1.size).alloc (below_small hb1 hg2 (dice_base hd1) hb1.size).size (confRow Z s b q d h)).size (confRow (Z + U) s b 4 d h); have hx2 := heap_first w2 (confRow Z s b q d h) (confRow (Z + U) s b 4 d h); have hy2 := heap_second w2 (confRow Z s b q d h) (confRow (Z + U) s b 4 d h)))
        | (go_at_call 7; ((with_reducible refine (HO.out _).mono ?_); rintro e w3 ⟨rfl, hb3⟩; have hx3 := lay_al (lay_on hb3 hx2 (lay_lt hx2)) (layRow n N2 X C1); have hy3 := lay_al (lay_on hb3 hy2 (lay_lt hy2)) (layRow n N2 X C1); have hz3 := heap_alloc_new w3 (layRow n N2 X C1); have b3 := (b2'.trans (hb3.mono b2'.size)).alloc (b2'.trans (hb3.mono b2'.size)).size (layRow n N2 X C1); obtain ⟨c0, c1, c2, c3, c4, c5⟩ := conf6 hy3))
        | (go_at_call 7; ((with_reducible refine (HOF.out _).mono ?_); rintro e w4 ⟨rfl, hb4⟩; clear c0 c1 c2 c3 c4 c5; have hx4 := lay_al (lay_on hb4 hx3 (lay_lt hx3)) (layRow n N2 D9 C9); have hy4 := lay_al (lay_on hb4 hy3 (lay_lt hy3)) (layRow n N2 D9 C9); have hz4 := lay_al (lay_on hb4 hz3 (lay_lt hz3)) (layRow n N2 D9 C9); have b4 := (b3.trans (hb4.mono b3.size)).alloc (b3.trans (hb4.mono b3.size)).size (layRow n N2 D9 C9); obtain ⟨c0, c1, c2, c3, c4, c5⟩ := conf6 hx4; obtain ⟨d0, d1, d2, d3, d4, d5⟩ := conf6 hy4; obtain ⟨y4, e0, e1, e2, e3⟩ := lay4 hz4))
        | (go_at_call 9; ((with_reducible refine (awake_lay _).mono ?_); rintro e w5 ⟨rfl, hb5⟩)))
      go_ret
      exact ⟨rfl, b4.trans (hb5.mono b4.size)⟩
    · obtain ⟨D9, C9, P, ⟨D1, D2⟩, ⟨C91, C92⟩, ⟨P1, P2⟩, hof, hP, t1, t2⟩ := HGR.out 32 (q + V) (by omega) (by omega) (by omega) (by omega)
      have HOF := Lib.hid hof
      clear hof
      go_enter Try.func6, Try.ntmps6
      go_wp2_with (first
        | (go_at_call 18; ((with_reducible refine HLI.out.mono ?_); rintro e w0 ⟨rfl, rfl⟩))
        | (go_at_call 20; ((with_reducible refine HR.out.mono ?_); rintro e w1 ⟨g, rfl, hd1, hb1⟩))
        | (go_at_call 19; ((with_reducible refine (HSM.out _ _ hd1).mono ?_); rintro e w2 ⟨rfl, hd2, hg2⟩; have b2' := ((below_small hb1 hg2 (dice_base hd1) hb1.size).alloc (below_small hb1 hg2 (dice_base hd1) hb1.size).size (confRow Z s b q d h)).alloc ((below_small hb1 hg2 (dice_base hd1) hb1.size).alloc (below_small hb1 hg2 (dice_base hd1) hb1.size).size (confRow Z s b q d h)).size (confRow 32 s b (q + V) d h); have hx2 := heap_first w2 (confRow Z s b q d h) (confRow 32 s b (q + V) d h); have hy2 := heap_second w2 (confRow Z s b q d h) (confRow 32 s b (q + V) d h)))
        | (go_at_call 7; ((with_reducible refine (HO.out _).mono ?_); rintro e w3 ⟨rfl, hb3⟩; have hx3 := lay_al (lay_on hb3 hx2 (lay_lt hx2)) (layRow n N2 X C1); have hy3 := lay_al (lay_on hb3 hy2 (lay_lt hy2)) (layRow n N2 X C1); have hz3 := heap_alloc_new w3 (layRow n N2 X C1); have b3 := (b2'.trans (hb3.mono b2'.size)).alloc (b2'.trans (hb3.mono b2'.size)).size (layRow n N2 X C1); obtain ⟨c0, c1, c2, c3, c4, c5⟩ := conf6 hy3))
        | (go_at_call 7; ((with_reducible refine (HOF.out _).mono ?_); rintro e w4 ⟨rfl, hb4⟩; clear c0 c1 c2 c3 c4 c5; have hx4 := lay_al (lay_on hb4 hx3 (lay_lt hx3)) (layRow n N2 D9 C9); have hy4 := lay_al (lay_on hb4 hy3 (lay_lt hy3)) (layRow n N2 D9 C9); have hz4 := lay_al (lay_on hb4 hz3 (lay_lt hz3)) (layRow n N2 D9 C9); have b4 := (b3.trans (hb4.mono b3.size)).alloc (b3.trans (hb4.mono b3.size)).size (layRow n N2 D9 C9); obtain ⟨c0, c1, c2, c3, c4, c5⟩ := conf6 hx4; obtain ⟨d0, d1, d2, d3, d4, d5⟩ := conf6 hy4; obtain ⟨y4, e0, e1, e2, e3⟩ := lay4 hz4))
        | (go_at_call 9; ((with_reducible refine (awake_lay _).mono ?_); rintro e w5 ⟨rfl, hb5⟩)))
      go_ret
      exact ⟨rfl, b4.trans (hb5.mono b4.size)⟩
    · obtain ⟨D9, C9, P, ⟨D1, D2⟩, ⟨C91, C92⟩, ⟨P1, P2⟩, hof, hP, t1, t2⟩ := HGR.out 32 4 (by omega) (by omega) (by omega) (by omega)
      have HOF := Lib.hid hof
      clear hof
      go_enter Try.func6, Try.ntmps6
      go_wp2_with (first
        | (go_at_call 18; ((with_reducible refine HLI.out.mono ?_); rintro e w0 ⟨rfl, rfl⟩))
        | (go_at_call 20; ((with_reducible refine HR.out.mono ?_); rintro e w1 ⟨g, rfl, hd1, hb1⟩))
        | (go_at_call 19; ((with_reducible refine (HSM.out _ _ hd1).mono ?_); rintro e w2 ⟨rfl, hd2, hg2⟩; have b2' := ((below_small hb1 hg2 (dice_base hd1) hb1.size).alloc (below_small hb1 hg2 (dice_base hd1) hb1.size).size (confRow Z s b q d h)).alloc ((below_small hb1 hg2 (dice_base hd1) hb1.size).alloc (below_small hb1 hg2 (dice_base hd1) hb1.size).size (confRow Z s b q d h)).size (confRow 32 s b 4 d h); have hx2 := heap_first w2 (confRow Z s b q d h) (confRow 32 s b 4 d h); have hy2 := heap_second w2 (confRow Z s b q d h) (confRow 32 s b 4 d h)))
        | (go_at_call 7; ((with_reducible refine (HO.out _).mono ?_); rintro e w3 ⟨rfl, hb3⟩; have hx3 := lay_al (lay_on hb3 hx2 (lay_lt hx2)) (layRow n N2 X C1); have hy3 := lay_al (lay_on hb3 hy2 (lay_lt hy2)) (layRow n N2 X C1); have hz3 := heap_alloc_new w3 (layRow n N2 X C1); have b3 := (b2'.trans (hb3.mono b2'.size)).alloc (b2'.trans (hb3.mono b2'.size)).size (layRow n N2 X C1); obtain ⟨c0, c1, c2, c3, c4, c5⟩ := conf6 hy3))
        | (go_at_call 7; ((with_reducible refine (HOF.out _).mono ?_); rintro e w4 ⟨rfl, hb4⟩; clear c0 c1 c2 c3 c4 c5; have hx4 := lay_al (lay_on hb4 hx3 (lay_lt hx3)) (layRow n N2 D9 C9); have hy4 := lay_al (lay_on hb4 hy3 (lay_lt hy3)) (layRow n N2 D9 C9); have hz4 := lay_al (lay_on hb4 hz3 (lay_lt hz3)) (layRow n N2 D9 C9); have b4 := (b3.trans (hb4.mono b3.size)).alloc (b3.trans (hb4.mono b3.size)).size (layRow n N2 D9 C9); obtain ⟨c0, c1, c2, c3, c4, c5⟩ := conf6 hx4; obtain ⟨d0, d1, d2, d3, d4, d5⟩ := conf6 hy4; obtain ⟨y4, e0, e1, e2, e3⟩ := lay4 hz4))
        | (go_at_call 9; ((with_reducible refine (awake_lay _).mono ?_); rintro e w5 ⟨rfl, hb5⟩)))
      go_ret
      exact ⟨rfl, b4.trans (hb5.mono b4.size)⟩
  · rw [decide_eq_false hlen] at hli
    have HLI := Lib.hid hli
    clear hli
    go_enter Try.func6, Try.ntmps6
    go_wp2_with (first
      | (go_at_call 18; ((with_reducible refine HLI.out.mono ?_); rintro e w0 ⟨rfl, rfl⟩))
      | (go_at_call 9; ((with_reducible refine (awake_lay _).mono ?_); rintro e w1 ⟨rfl, hb1⟩)))
    go_ret
    exact ⟨rfl, hb1⟩
end Go.Proofs.Yteifpflnadjjkaa
