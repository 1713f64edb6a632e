
/- The walk of ShardCommutes, under the program's contracts. -/
import Derived.Test.YtbaclgedohpibaaShStep
namespace Go.Proofs.Ytbaclgedohpibaa.Ents
open Go.RowKit Plan EntMath
theorem same_cases (ab bb av bv : Int) : ((ab == bb) = true ∧ (av == bv) = true) ∨ ((ab == bb) = true ∧ (av == bv) = false ∧ RowKit.Hid (¬ (ab = bb ∧ av = bv))) ∨ ((ab == bb) = false ∧ RowKit.Hid (¬ (ab = bb ∧ av = bv)) ∧ RowKit.Hid (ab ≠ bb)) := by
  by_cases h1 : ab = bb
  · by_cases h2 : av = bv
    · exact .inl ⟨by simpa using h1, by simpa using h2⟩
    · exact .inr (.inl ⟨by simpa using h1, by simpa using h2, Lib.hid (fun h => h2 h.2)⟩)
  · exact .inr (.inr ⟨by simpa using h1, Lib.hid (fun h => h1 h.1), Lib.hid h1⟩)
theorem ne_len {L : List Ent} {n : Nat} (h : L ≠ []) (hl : L.length = n) : ((n : Int) == 0) = false ∧ (n == 0) = false := by
  have : n ≠ 0 := fun e => h (List.length_eq_zero_iff.1 (hl.trans e))
  constructor
  · simp; omega
  · simpa using this
set_option maxHeartbeats 8000000 in
set_option maxRecDepth 20000 in
theorem shCommutes_any (H : ShardOk) (a : Option Addr) (len cap : Nat) (zs : List Int) (w : World) (hrow : IsRow .i64 w a len cap zs) :
    Calls Try.prog 7 #[.slice a len cap] w fun r w' => r = .returned (.bool true) ∧ Below w.heap.size w w' := by
  have hli := light_any a len cap w
  by_cases hlen : (len : Int) ≤ 300
  · rw [decide_eq_true hlen] at hli
    have hro := roll_any a len cap zs w hrow (by omega)
    have hzl : (zs.take len).length ≤ 100000 := by rw [List.length_take]; omega
    generalize zs.take len = L at hro hzl
    unfold RollPost at hro
    have HR := Lib.hid hro
    have HLI := Lib.hid hli
    clear hro hli
    go_enter Try.func7, Try.ntmps7
    go_wp2_with (first
      | (go_at_call 10; ((with_reducible refine HLI.out.mono ?_); rintro e w0 ⟨rfl, rfl⟩))
      | (go_at_call 11; ((with_reducible refine HR.out.mono ?_); rintro e w1 ⟨g, rfl, hd1, hb1⟩)))
    have hgB := dice_lt hd1
    have hgb := dice_base hd1
    have hs1 := hb1.size
    obtain ⟨B, hB⟩ : ∃ B, B = w1.heap.size := ⟨_, rfl⟩
    have sB : B ≤ w1.heap.size := Nat.le_of_eq hB
    rw [← hB] at hgB hs1
    clear hB
    go_loopw [4, 5] (fun v c wr => ∃ (j k : Nat) (S : List Ent) (a : Option Addr) (n d : Nat), c = .int .i64 (j : Int) ∧ j ≤ 8 ∧ v = .slice a n d ∧ EList wr (From B) a n d S ∧ validB S = true ∧ n ≤ j ∧ Dice wr w.heap.size g L k ∧ B ≤ wr.heap.size ∧ Below w.heap.size w wr) (fun _ c _ => 8 - (intOf c).toNat)
    case atStart => exact ⟨0, 0, [], none, 0, 0, rfl, by omega, rfl, EList.nil _ _, rfl, by omega, hd1, sB, hb1⟩
    case round =>
      obtain ⟨j, k, S, sa, n, d, rfl, hj, rfl, hl, hv, hn, hd, hs, hb⟩ := hrel
      have hnF : ¬ From B g := by show ¬ B ≤ g; omega
      by_cases hlt : j < 8
      · have hjI : (j : Int) < 8 := by omega
        go_wp2_with (first
          | (go_at_call 13; ((with_reducible refine (rolled_any _ _ _ _ _ hd hzl).mono ?_); rintro r9 w2 ⟨eb, ek, ev, em, ez, eo, rfl, ok2, q2, q3, q4, hd2, hg2⟩; have l2 := hl.on (Same.grown hg2 hnF); have b2 := e_below hb hg2 hgb hb.size; have s2 := Nat.le_trans hs hg2.size; clear q2 q3 q4))
          | (go_at_call 18; ((with_reducible refine (ref_install eb ek ev em ez eo _ l2 (by omega) s2).mono ?_); rintro r9 w3 ⟨y1, y2, y3, y4, y5, y6, yB, a3, n3, k3, rfl, l3, m3, h3⟩; have b3 := b2.trans (h3.mono b2.size); have s3 := Nat.le_trans s2 h3.size; have hd3 := dice_on hd2 h3 (Nat.le_refl _)))
          )
        have v3 := valid_install (e := ⟨eb, ek, ev, em, ez, eo⟩) hv
        go_roundw
        case rel => exact ⟨j + 1, _, _, a3, n3, k3, by go_num, by omega, rfl, l3, v3, by omega, hd3, s3, b3⟩
        case measure => simp [intOf]; omega
      · obtain rfl : j = 8 := by omega
        go_wp2_with (first
          | (go_at_call 13; ((with_reducible refine (rolled_any _ _ _ _ _ hd hzl).mono ?_); rintro r9 w2 ⟨ab, ak, av, am, az, ao, rfl, oka, qa2, qa3, qa4, hd2, hg2⟩; have l2 := hl.on (Same.grown hg2 hnF); have b2 := e_below hb hg2 hgb hb.size; have s2 := Nat.le_trans hs hg2.size; clear qa2 qa3 qa4))
          | (go_at_call 13; ((with_reducible refine (rolled_any _ _ _ _ _ hd2 hzl).mono ?_); rintro r9 w3 ⟨bb, bk, bv, bm, bz, bo, rfl, okb, qb2, qb3, qb4, hd3, hg3⟩; have l4 := ((l2.on (Same.grown hg3 hnF)).keep ((Below.refl w3.heap.size w3).alloc (Nat.le_refl _) (entRow ab ak av am az ao))).keep ((Below.refl (w3.alloc (entRow ab ak av am az ao)).heap.size (w3.alloc (entRow ab ak av am az ao))).alloc (Nat.le_refl _) (entRow bb bk bv bm bz bo)); have b3 := e_below b2 hg3 hgb b2.size; have s3 := Nat.le_trans s2 hg3.size; have b4 := (b3.alloc b3.size (entRow ab ak av am az ao)).alloc (b3.alloc b3.size (entRow ab ak av am az ao)).size (entRow bb bk bv bm bz bo); have s4 : B ≤ ((w3.alloc (entRow ab ak av am az ao)).alloc (entRow bb bk bv bm bz bo)).heap.size := (by simp only [World.size_alloc]; omega); have HA := Lib.hid (fun W9 (h9 : Below ((w3.alloc (entRow ab ak av am az ao)).alloc (entRow bb bk bv bm bz bo)).heap.size ((w3.alloc (entRow ab ak av am az ao)).alloc (entRow bb bk bv bm bz bo)) W9) => entry_row (e_on h9 (heap_first w3 (entRow ab ak av am az ao) (entRow bb bk bv bm bz bo)) (by simp only [World.size_alloc]; omega))); have HB := Lib.hid (fun W9 (h9 : Below ((w3.alloc (entRow ab ak av am az ao)).alloc (entRow bb bk bv bm bz bo)).heap.size ((w3.alloc (entRow ab ak av am az ao)).alloc (entRow bb bk bv bm bz bo)) W9) => entry_row (e_on h9 (heap_second w3 (entRow ab ak av am az ao) (entRow bb bk bv bm bz bo)) (by simp only [World.size_alloc]; omega))); have c4 := Below.refl ((w3.alloc (entRow ab ak av am az ao)).alloc (entRow bb bk bv bm bz bo)).heap.size ((w3.alloc (entRow ab ak av am az ao)).alloc (entRow bb bk bv bm bz bo)); have hn4 : n ≤ 1000 := (by omega); have HOA := Lib.hid oka; have HOB := Lib.hid okb; have HV := Lib.hid hv; clear qb2 qb3 qb4 oka okb hd hd2 hd3 hg2 hg3 hl l2; obtain ⟨e0, e1, e2, e3, e4, e5⟩ := HA.out _ c4; obtain ⟨f0, f1, f2, f3, f4, f5⟩ := HB.out _ c4; rcases same_cases ab bb av bv with ⟨t1, t2⟩ | ⟨t1, t2, HN⟩ | ⟨t1, HN, HN2⟩ <;> (try (have HIC := Lib.hid (install_comm (a := ⟨ab, ak, av, am, az, ao⟩) (b := ⟨bb, bk, bv, bm, bz, bo⟩) HV.out HOA.out HOB.out HN.out); have HNE := Lib.hid (install_nonempty (a := ⟨ab, ak, av, am, az, ao⟩) (b := ⟨bb, bk, bv, bm, bz, bo⟩) HV.out HOB.out)))))
          | (go_at_call 19; ((with_reducible refine (sh_install H ab ak av am az ao _ l4 hn4 s4).mono ?_); rintro r9 w5 ⟨y1, y2, y3, y4, y5, y6, yB5, a5, n5, k5, rfl, l5, m5, h5⟩; have b5 := b4.trans (h5.mono b4.size); have c5 := c4.trans (h5.mono c4.size); have s5 := Nat.le_trans s4 h5.size; have l4 := l4.keep h5; have b5 := b5.alloc b5.size (entRow y1 y2 y3 y4 y5 y6); have c5 := c5.alloc c5.size (entRow y1 y2 y3 y4 y5 y6); have s5 : B ≤ (w5.alloc (entRow y1 y2 y3 y4 y5 y6)).heap.size := Nat.le_trans s5 (by simp); have l4 := l4.keep ((Below.refl w5.heap.size w5).alloc (Nat.le_refl _) (entRow y1 y2 y3 y4 y5 y6)); have l5 := l5.keep ((Below.refl w5.heap.size w5).alloc (Nat.le_refl _) (entRow y1 y2 y3 y4 y5 y6)); clear e0 e1 e2 e3 e4 e5; obtain ⟨e0, e1, e2, e3, e4, e5⟩ := HA.out _ c5; clear f0 f1 f2 f3 f4 f5; obtain ⟨f0, f1, f2, f3, f4, f5⟩ := HB.out _ c5))
          | (go_at_call 19; ((with_reducible refine (sh_install H bb bk bv bm bz bo _ l5 (by omega) s5).mono ?_); rintro r9 w6 ⟨y1, y2, y3, y4, y5, y6, yB6, a6, n6, k6, rfl, l6, m6, h6⟩; have b6 := b5.trans (h6.mono b5.size); have c6 := c5.trans (h6.mono c5.size); have s6 := Nat.le_trans s5 h6.size; have l4 := l4.keep h6; clear e0 e1 e2 e3 e4 e5; obtain ⟨e0, e1, e2, e3, e4, e5⟩ := HA.out _ c6; clear f0 f1 f2 f3 f4 f5; obtain ⟨f0, f1, f2, f3, f4, f5⟩ := HB.out _ c6))
          | (go_at_call 19; ((with_reducible refine (sh_install H bb bk bv bm bz bo _ l4 hn4 s6).mono ?_); rintro r9 w7 ⟨y1, y2, y3, y4, y5, y6, yB7, a7, n7, k7, rfl, l7, m7, h7⟩; have b7 := b6.trans (h7.mono b6.size); have c7 := c6.trans (h7.mono c6.size); have s7 := Nat.le_trans s6 h7.size; have l4 := l4.keep h7; have l6 := l6.keep h7; have b7 := b7.alloc b7.size (entRow y1 y2 y3 y4 y5 y6); have c7 := c7.alloc c7.size (entRow y1 y2 y3 y4 y5 y6); have s7 : B ≤ (w7.alloc (entRow y1 y2 y3 y4 y5 y6)).heap.size := Nat.le_trans s7 (by simp); have l4 := l4.keep ((Below.refl w7.heap.size w7).alloc (Nat.le_refl _) (entRow y1 y2 y3 y4 y5 y6)); have l6 := l6.keep ((Below.refl w7.heap.size w7).alloc (Nat.le_refl _) (entRow y1 y2 y3 y4 y5 y6)); have l7 := l7.keep ((Below.refl w7.heap.size w7).alloc (Nat.le_refl _) (entRow y1 y2 y3 y4 y5 y6)); clear e0 e1 e2 e3 e4 e5; obtain ⟨e0, e1, e2, e3, e4, e5⟩ := HA.out _ c7; clear f0 f1 f2 f3 f4 f5; obtain ⟨f0, f1, f2, f3, f4, f5⟩ := HB.out _ c7))
          | (go_at_call 19; ((with_reducible refine (sh_install H ab ak av am az ao _ l7 (by omega) s7).mono ?_); rintro r9 w8 ⟨y1, y2, y3, y4, y5, y6, yB8, a8, n8, k8, rfl, l8, m8, h8⟩; have b8 := b7.trans (h8.mono b7.size); have c8 := c7.trans (h8.mono c7.size); have s8 := Nat.le_trans s7 h8.size; have l4 := l4.keep h8; have l6 := l6.keep h8; clear e0 e1 e2 e3 e4 e5; obtain ⟨e0, e1, e2, e3, e4, e5⟩ := HA.out _ c8; clear f0 f1 f2 f3 f4 f5; obtain ⟨f0, f1, f2, f3, f4, f5⟩ := HB.out _ c8; rw [← HIC.out] at l8))
          | (go_at_call 24; ((with_reducible refine (refSame_any _ _ _ a6 a8 n6 k6 k8 n8 _ l6 l8).mono ?_); rintro r9 w9 ⟨rfl, h9⟩; have b9 := b8.trans (h9.mono b8.size); have c9 := c8.trans (h9.mono c8.size); have s9 := Nat.le_trans s8 h9.size; have l4 := l4.keep h9; clear e0 e1 e2 e3 e4 e5; obtain ⟨e0, e1, e2, e3, e4, e5⟩ := HA.out _ c9; clear f0 f1 f2 f3 f4 f5; obtain ⟨f0, f1, f2, f3, f4, f5⟩ := HB.out _ c9; have hne := ne_len (HNE.out) l6.length; obtain ⟨hne1, hne2⟩ := hne; clear l8))
          | (go_at_call 20; ((with_reducible refine (sh_find H ab _ l4 hn4 HV.out).mono ?_); rintro r9 w10 (⟨x1, x2, x3, x4, x5, x6, hx, rfl, h10⟩ | ⟨hx, rfl, h10⟩) <;> (first | (have hx9 : lookE S ab = some ⟨x1, x2, x3, x4, x5, x6⟩ := hx; have b10 := (b9.trans (h10.mono b9.size)).alloc (b9.trans (h10.mono b9.size)).size (entRow x1 x2 x3 x4 x5 x6); have c10 := (c9.trans (h10.mono c9.size)).alloc (c9.trans (h10.mono c9.size)).size (entRow x1 x2 x3 x4 x5 x6); have s10 : B ≤ (w10.alloc (entRow x1 x2 x3 x4 x5 x6)).heap.size := (by have := h10.size; simp only [World.size_alloc]; omega); have l4 := (l4.keep h10).keep ((Below.refl w10.heap.size w10).alloc (Nat.le_refl _) (entRow x1 x2 x3 x4 x5 x6)); clear e0 e1 e2 e3 e4 e5 f0 f1 f2 f3 f4 f5; obtain ⟨e0, e1, e2, e3, e4, e5⟩ := HA.out _ c10; obtain ⟨f0, f1, f2, f3, f4, f5⟩ := HB.out _ c10; have HF := Lib.hid (fun W9 (h9 : Below (w10.alloc (entRow x1 x2 x3 x4 x5 x6)).heap.size (w10.alloc (entRow x1 x2 x3 x4 x5 x6)) W9) => entry_row (e_on h9 (heap_alloc_new w10 (entRow x1 x2 x3 x4 x5 x6)) (by simp))); have d10 := Below.refl (w10.alloc (entRow x1 x2 x3 x4 x5 x6)).heap.size (w10.alloc (entRow x1 x2 x3 x4 x5 x6)); obtain ⟨g0, g1, g2, g3, g4, g5⟩ := HF.out _ d10; have HM := Lib.hid ((moves_iff (tz := 9) (to := 9) (m := 1) HV.out hx9).2 ⟨rfl, rfl, rfl, by decide, by decide, by decide, by decide⟩); (try (have HRI := Lib.hid (reloc_install (e := ⟨bb, bk, bv, bm, bz, bo⟩) HV.out HOB.out hx9 HN2.out HM.out))); clear hx9 hx) | (have b10 := (b9.trans (h10.mono b9.size)).alloc (b9.trans (h10.mono b9.size)).size (entRow 0 0 0 0 0 0); have c10 := (c9.trans (h10.mono c9.size)).alloc (c9.trans (h10.mono c9.size)).size (entRow 0 0 0 0 0 0); have s10 : B ≤ (w10.alloc (entRow 0 0 0 0 0 0)).heap.size := (by have := h10.size; simp only [World.size_alloc]; omega); have l4 := (l4.keep h10).keep ((Below.refl w10.heap.size w10).alloc (Nat.le_refl _) (entRow 0 0 0 0 0 0)); clear e0 e1 e2 e3 e4 e5 f0 f1 f2 f3 f4 f5; obtain ⟨e0, e1, e2, e3, e4, e5⟩ := HA.out _ c10; obtain ⟨f0, f1, f2, f3, f4, f5⟩ := HB.out _ c10; clear hx))))
          | (go_at_call 21; ((with_reducible refine (sh_reloc H ab x3 x5 x6 9 9 1 _ l4 hn4 s10).mono ?_); rintro r9 w11 ⟨a11, n11, k11, hr9, l11, m11, h11⟩; rw [HM.out] at hr9; subst hr9; have b11 := b10.trans (h11.mono b10.size); have c11 := c10.trans (h11.mono c10.size); have s11 := Nat.le_trans s10 h11.size; have l4 := l4.keep h11; clear e0 e1 e2 e3 e4 e5; obtain ⟨e0, e1, e2, e3, e4, e5⟩ := HA.out _ c11; clear f0 f1 f2 f3 f4 f5; obtain ⟨f0, f1, f2, f3, f4, f5⟩ := HB.out _ c11; have d11 := d10.trans (h11.mono d10.size); clear g0 g1 g2 g3 g4 g5; obtain ⟨g0, g1, g2, g3, g4, g5⟩ := HF.out _ d11))
          | (go_at_call 19; ((with_reducible refine (sh_install H bb bk bv bm bz bo _ l11 (by omega) s11).mono ?_); rintro r9 w12 ⟨y1, y2, y3, y4, y5, y6, yB12, a12, n12, k12, rfl, l12, m12, h12⟩; have b12 := b11.trans (h12.mono b11.size); have c12 := c11.trans (h12.mono c11.size); have s12 := Nat.le_trans s11 h12.size; have l4 := l4.keep h12; clear e0 e1 e2 e3 e4 e5; obtain ⟨e0, e1, e2, e3, e4, e5⟩ := HA.out _ c12; clear f0 f1 f2 f3 f4 f5; obtain ⟨f0, f1, f2, f3, f4, f5⟩ := HB.out _ c12; have d12 := d11.trans (h12.mono d11.size); clear g0 g1 g2 g3 g4 g5; obtain ⟨g0, g1, g2, g3, g4, g5⟩ := HF.out _ d12))
          | (go_at_call 19; ((with_reducible refine (sh_install H bb bk bv bm bz bo _ l4 hn4 s12).mono ?_); rintro r9 w13 ⟨y1, y2, y3, y4, y5, y6, yB13, a13, n13, k13, rfl, l13, m13, h13⟩; have b13 := b12.trans (h13.mono b12.size); have c13 := c12.trans (h13.mono c12.size); have s13 := Nat.le_trans s12 h13.size; have l12 := l12.keep h13; have b13 := b13.alloc b13.size (entRow y1 y2 y3 y4 y5 y6); have c13 := c13.alloc c13.size (entRow y1 y2 y3 y4 y5 y6); have s13 : B ≤ (w13.alloc (entRow y1 y2 y3 y4 y5 y6)).heap.size := Nat.le_trans s13 (by simp); have l12 := l12.keep ((Below.refl w13.heap.size w13).alloc (Nat.le_refl _) (entRow y1 y2 y3 y4 y5 y6)); have l13 := l13.keep ((Below.refl w13.heap.size w13).alloc (Nat.le_refl _) (entRow y1 y2 y3 y4 y5 y6)); clear e0 e1 e2 e3 e4 e5; obtain ⟨e0, e1, e2, e3, e4, e5⟩ := HA.out _ c13; clear f0 f1 f2 f3 f4 f5; obtain ⟨f0, f1, f2, f3, f4, f5⟩ := HB.out _ c13; have d13 := (d12.trans (h13.mono d12.size)).alloc (d12.trans (h13.mono d12.size)).size (entRow y1 y2 y3 y4 y5 y6); clear g0 g1 g2 g3 g4 g5; obtain ⟨g0, g1, g2, g3, g4, g5⟩ := HF.out _ d13))
          | (go_at_call 21; ((with_reducible refine (sh_reloc H ab x3 x5 x6 9 9 1 _ l13 (by omega) s13).mono ?_); rintro r9 w14 ⟨a14, n14, k14, hr9, l14, m14, h14⟩; rw [HRI.out.1] at hr9; subst hr9; rw [← HRI.out.2] at l14; have b14 := b13.trans (h14.mono b13.size); have c14 := c13.trans (h14.mono c13.size); have s14 := Nat.le_trans s13 h14.size; have l12 := l12.keep h14))
          | (go_at_call 24; ((with_reducible refine (refSame_any _ _ _ a12 a14 n12 k12 k14 n14 _ l12 l14).mono ?_); rintro r9 w15 ⟨rfl, h15⟩; have b15 := b14.trans (h15.mono b14.size); have c15 := c14.trans (h15.mono c14.size); have s15 := Nat.le_trans s14 h15.size))
          | (go_at_call 9; ((with_reducible refine (shAwake_any H _).mono ?_); rintro r9 w99 ⟨rfl, h99⟩)))
        all_goals go_ret
        all_goals first
          | exact ⟨rfl, b15.trans (h99.mono b15.size)⟩
          | exact ⟨rfl, b10.trans (h99.mono b10.size)⟩
          | exact ⟨rfl, b4.trans (h99.mono b4.size)⟩
  · rw [decide_eq_false hlen] at hli
    have HLI := Lib.hid hli
    clear hli
    go_enter Try.func7, Try.ntmps7
    go_wp2_with (first
      | (go_at_call 10; ((with_reducible refine HLI.out.mono ?_); rintro e w0 ⟨rfl, rfl⟩))
      | (go_at_call 9; ((with_reducible refine (shAwake_any H _).mono ?_); rintro e w1 ⟨rfl, hb1⟩)))
    go_ret
    exact ⟨rfl, hb1⟩
end Go.Proofs.Ytbaclgedohpibaa.Ents
