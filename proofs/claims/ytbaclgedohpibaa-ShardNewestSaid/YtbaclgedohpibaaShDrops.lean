
/- The walk of ShardDrops, under the program's contracts. -/
import Derived.Test.YtbaclgedohpibaaShComm
import Derived.Test.YtbaclgedohpibaaMakeRest
namespace Go.Proofs.Ytbaclgedohpibaa.Ents
open Go.RowKit Plan EntMath
theorem sum_len {S L M : List Ent} {m k n : Nat} (hm : L.length = m) (hk : M.length = k) (hn : S.length = n) (h : L.length + M.length = S.length) (h1 : n ≤ 1000) : ((m : Int) + (k : Int) != (n : Int)) = false ∧ (m + k != n) = false ∧ (k : Int) ≤ 1000 ∧ (m : Int) ≤ 1000 := by
  have : m + k = n := by omega
  refine ⟨?_, ?_, by omega, by omega⟩
  · simp; omega
  · simpa using this
theorem max_cases (P Q : Int) : (P < Q ∧ RowKit.Hid (max P Q = Q)) ∨ (¬ P < Q ∧ RowKit.Hid (max P Q = P)) := by
  by_cases h : P < Q
  · exact .inl ⟨h, Lib.hid (by omega)⟩
  · exact .inr ⟨h, Lib.hid (by omega)⟩
theorem gone_yes {ek ev P : Int} (h : (!(decide (ek = 2) && decide (ev < P))) = false) : (ek == 2) = true ∧ decide (ev < P) = true := by
  have h2 : ek = 2 ∧ ev < P := by simpa using h
  exact ⟨by simpa using h2.1, by simpa using h2.2⟩
theorem gone_cases {ek ev P : Int} (h : (!(decide (ek = 2) && decide (ev < P))) = true) : ((ek == 2) = true ∧ decide (ev < P) = false) ∨ (ek == 2) = false := by
  by_cases h1 : ek = 2
  · refine .inl ⟨by simpa using h1, ?_⟩
    simpa [h1] using h
  · exact .inr (by simpa using h1)
theorem u8_sixteen {u : Int} (h : (Lit.int .u8 u).wf = true) : wrap64 u = u ∧ (0 ≤ u ∧ u ≤ 255) ∧ ∃ P : Int, u.tmod 16 = P := by
  refine ⟨?_, ?_, _, rfl⟩
  · simp [Lit.wf, IntKind.min, IntKind.max, IntKind.signed, IntKind.bits] at h
    unfold wrap64
    omega
  · simp [Lit.wf, IntKind.min, IntKind.max, IntKind.signed, IntKind.bits] at h
    omega
theorem rest_cases (n k : Nat) : (max (0 : Int) ((n : Int) - (k : Int)) = 0 ∨ 0 < max (0 : Int) ((n : Int) - (k : Int))) := by omega
theorem stp6_le (zs : List Int) (k : Nat) : stp6 zs k ≤ k + 6 := by
  unfold stp6
  have h1 := stp_le zs k
  have h2 := stp_le zs (stp zs k)
  have h3 := stp_le zs (stp zs (stp zs k))
  have h4 := stp_le zs (stp zs (stp zs (stp zs k)))
  have h5 := stp_le zs (stp zs (stp zs (stp zs (stp zs k))))
  have h6 := stp_le zs (stp zs (stp zs (stp zs (stp zs (stp zs k)))))
  omega
set_option maxHeartbeats 16000000 in
set_option maxRecDepth 20000 in
theorem shDrops_any (H : ShardOk) (a : Option Addr) (len cap : Nat) (zs : List Int) (u v : Int) (w : World) (hrow : IsRow .i64 w a len cap zs) (hu : (Lit.int .u8 u).wf = true) (hv8 : (Lit.int .u8 v).wf = true) :
    Calls Try.prog 6 #[.slice a len cap, .int .u8 u, .int .u8 v] w fun r w' => r = .returned (.bool true) ∧ Below w.heap.size w w' := by
  have hli := light_any a len cap w
  by_cases hlen : (len : Int) ≤ 300
  · rw [decide_eq_true hlen] at hli
    have hro := roll_any a len cap zs w hrow (by omega)
    have hzl : (zs.take len).length ≤ 100000 := by rw [List.length_take]; omega
    generalize zs.take len = L at hro hzl
    unfold RollPost at hro
    have HR := Lib.hid hro
    have HLI := Lib.hid hli
    clear hro hli
    obtain ⟨e1, u0, P, e3⟩ := u8_sixteen hu
    obtain ⟨e2, v0, Q, e4⟩ := u8_sixteen hv8
    have HU := Lib.hid u0
    have HW := Lib.hid v0
    have HE3 := Lib.hid e3
    have HE4 := Lib.hid e4
    clear hu hv8 e3 e4 u0 v0
    go_enter Try.func6, Try.ntmps6
    go_wp2_with (first
      | (go_at_call 10; ((with_reducible refine HLI.out.mono ?_); rintro e w0 ⟨rfl, rfl⟩))
      | (go_at_call 11; ((with_reducible refine HR.out.mono ?_); rintro e w1 ⟨g, rfl, hd1, hb1⟩)))
    have hgB := dice_lt hd1
    have hgb := dice_base hd1
    have hs1 := hb1.size
    obtain ⟨B, hB⟩ : ∃ B, B = w1.heap.size := ⟨_, rfl⟩
    have sB : B ≤ w1.heap.size := Nat.le_of_eq hB
    rw [← hB] at hgB hs1
    clear hB
    go_loopw [8, 9] (fun v c wr => ∃ (j k : Nat) (S : List Ent) (a : Option Addr) (n d : Nat), c = .int .i64 (j : Int) ∧ j ≤ 30 ∧ v = .slice a n d ∧ EList wr (From B) a n d S ∧ validB S = true ∧ n ≤ j ∧ k ≤ 6 * j ∧ Dice wr w.heap.size g L k ∧ B ≤ wr.heap.size ∧ Below w.heap.size w wr) (fun _ c _ => 30 - (intOf c).toNat)
    case atStart => exact ⟨0, 0, [], none, 0, 0, rfl, by omega, rfl, EList.nil _ _, rfl, by omega, by omega, hd1, sB, hb1⟩
    case round =>
      obtain ⟨j, k, S, sa, n, d, rfl, hj, rfl, hl, hv, hn, hk, hd, hs, hb⟩ := hrel
      have hnF : ¬ From B g := by show ¬ B ≤ g; omega
      have hn4 : n ≤ 1000 := by omega
      have HV := Lib.hid hv
      by_cases hlt : j < 30
      · have hjI : (j : Int) < 30 := by omega
        have hrs := rest_dice wr w.heap.size g L k hd hzl (by omega)
        have hk6 := stp6_le L k
        rcases rest_cases L.length k with hz | hz
        · rw [hz] at hrs
          have l4 : EList wr.drew (From B) sa n d S := hl.on ⟨Nat.le_refl _, fun _ _ _ => rfl⟩
          have b4 := hb.drew
          have s4 : B ≤ wr.drew.heap.size := hs
          have HRS := Lib.hid hrs
          clear hrs hd hl hb hz hk6 hv
          have e3 := HE3.out
          have e4 := HE4.out
          obtain ⟨u0, u1⟩ := HU.out
          obtain ⟨v0, v1⟩ := HW.out
          go_wp2_with (first
            | (go_at_call 12; ((with_reducible refine HRS.out.mono ?_); rintro r9 w2 ⟨rfl, rfl⟩))
            | (go_at_call 23; ((with_reducible refine (sh_drop H P _ l4 hn4 s4).mono ?_); rintro r9 w5 ⟨a5, m5, c5, a5g, m5g, c5g, rfl, l5, g5, n5, h5⟩; have b5 := b4.trans (h5.mono b4.size); have s5 := Nat.le_trans s4 h5.size; have l4 := l4.keep h5; obtain ⟨q1, q2, q3, q4⟩ := sum_len l5.length g5.length l4.length (stay_gone (c := P) HV.out) hn4; clear g5 e3 e4 u0 u1 v0 v1))
            | (go_at_call 23; ((with_reducible refine (sh_drop H P _ l5 (Nat.le_trans n5 hn4) s5).mono ?_); rintro r9 w6 ⟨a6, m6, c6, a6g, m6g, c6g, rfl, l6, g6, n6, h6⟩; have b6 := b5.trans (h6.mono b5.size); have s6 := Nat.le_trans s5 h6.size; have l4 := l4.keep h6; have l5 := l5.keep h6; have gl := g6.length; rw [(stay_again HV.out).2] at gl; obtain rfl : m6g = 0 := gl.symm; rw [(stay_again HV.out).1] at l6; clear g6 gl))
            | (go_at_call 23; ((with_reducible refine (sh_drop H Q _ l5 (Nat.le_trans n5 hn4) s6).mono ?_); rintro r9 w7 ⟨a7, m7, c7, a7g, m7g, c7g, rfl, l7, g7, n7, h7⟩; have b7 := b6.trans (h7.mono b6.size); have s7 := Nat.le_trans s6 h7.size; have l4 := l4.keep h7; have l5 := l5.keep h7; have l6 := l6.keep h7; clear g7; rcases max_cases P Q with ⟨hpq, hmx⟩ | ⟨hpq, hmx⟩))
            | (go_at_call 23; ((with_reducible refine (sh_drop H Q _ l4 hn4 s7).mono ?_); rintro r9 w8 ⟨a8, m8, c8, a8g, m8g, c8g, rfl, l8, g8, n8, h8⟩; have b8 := b7.trans (h8.mono b7.size); have s8 := Nat.le_trans s7 h8.size; have l4 := l4.keep h8; have l5 := l5.keep h8; have l6 := l6.keep h8; have l7 := l7.keep h8; rw [stay_two HV.out, hmx.out] at l7; clear g8))
            | (go_at_call 23; ((with_reducible refine (sh_drop H P _ l4 hn4 s7).mono ?_); rintro r9 w8 ⟨a8, m8, c8, a8g, m8g, c8g, rfl, l8, g8, n8, h8⟩; have b8 := b7.trans (h8.mono b7.size); have s8 := Nat.le_trans s7 h8.size; have l4 := l4.keep h8; have l5 := l5.keep h8; have l6 := l6.keep h8; have l7 := l7.keep h8; rw [stay_two HV.out, hmx.out] at l7; clear g8))
            | (go_at_call 24; ((with_reducible refine (refSame_any _ _ _ a5 a6 m5 c5 c6 m6 _ l5 l6).mono ?_); rintro r9 w9 ⟨rfl, h9⟩; have b9 := b8.trans (h9.mono b8.size); have s9 := Nat.le_trans s8 h9.size; have l4 := l4.keep h9; have l5 := l5.keep h9; have l7 := l7.keep h9; have l8 := l8.keep h9))
            | (go_at_call 24; ((with_reducible refine (refSame_any _ _ _ a7 a8 m7 c7 c8 m8 _ l7 l8).mono ?_); rintro r9 w10 ⟨rfl, h10⟩; have b10 := b9.trans (h10.mono b9.size); have s10 := Nat.le_trans s9 h10.size; have l4 := l4.keep h10; have l5 := l5.keep h10)))
          all_goals
            have hlen4 := l4.length
            have HX := Lib.hid (fun W (h : Below w10.heap.size w10 W) i (hi : i < n) => (l4.keep h).ent i hi)
            have HL5 := Lib.hid (fun W (h : Below w10.heap.size w10 W) => l5.keep h)
            clear l4 l5 l6 l7 l8
            have hmx4 : n ≤ 1000 := hn4
            go_loopw [20] (fun c wr => ∃ j : Nat, c = .int .i64 (j : Int) ∧ j ≤ n ∧ Below w10.heap.size w10 wr) (fun c _ => n - (intOf c).toNat)
            case atStart => exact ⟨0, rfl, by omega, Below.refl _ _⟩
            case round =>
              obtain ⟨i, rfl, hi, hb⟩ := hrel
              by_cases hlt : i < n
              · obtain ⟨x, e, rfl, he, hat⟩ := HX.out wr hb i hlt
                have hiI : (i : Int) < (n : Int) := by omega
                have hfs := find_stay (c := P) HV.out (List.mem_of_getElem? he)
                rw [find_look (valid_stay HV.out)] at hfs
                have hkp := Lib.hid (fun v1 (h : Below wr.heap.size wr v1) => EntAt.kept hat h hat.lt)
                have l9 := HL5.out wr hb
                have s11 := Nat.le_trans s10 hb.size
                clear he
                obtain ⟨eb, ek, ev, em, ez, eo⟩ := e
                have hgc : gone P ⟨eb, ek, ev, em, ez, eo⟩ = (decide (ek = 2) && decide (ev < P)) := rfl
                rw [hgc] at hfs
                obtain ⟨c0, c1, c2, c3, c4, c5⟩ := hat
                try simp only at c0 c1 c2 c3 c4 c5 hkp hfs
                have HFS := Lib.hid hfs
                clear hgc hfs
                go_wp2_with (first
                  | (go_at_call 20; ((with_reducible refine (sh_find H eb _ l9 (Nat.le_trans n5 hn4) (valid_stay HV.out)).mono ?_); rintro r9 w12 (⟨x1, x2, x3, x4, x5, x6, hx, rfl, h12⟩ | ⟨hx, rfl, h12⟩) <;> (first | (have hx9 : lookE (stayL S P) eb = some ⟨x1, x2, x3, x4, x5, x6⟩ := hx; have b12 := (hb.trans (h12.mono hb.size)).alloc (hb.trans (h12.mono hb.size)).size (entRow x1 x2 x3 x4 x5 x6); clear c0 c1 c2 c3 c4 c5; obtain ⟨c0, c1, c2, c3, c4, c5⟩ := hkp.out _ (h12.alloc h12.size (entRow x1 x2 x3 x4 x5 x6)); rcases gone_cases (HFS.out.symm.trans (by rw [hx9]; rfl)) with ⟨t1, t2⟩ | t1) | (have b12 := (hb.trans (h12.mono hb.size)).alloc (hb.trans (h12.mono hb.size)).size (entRow 0 0 0 0 0 0); clear c0 c1 c2 c3 c4 c5; obtain ⟨c0, c1, c2, c3, c4, c5⟩ := hkp.out _ (h12.alloc h12.size (entRow 0 0 0 0 0 0)); obtain ⟨t1, t2⟩ := gone_yes (HFS.out.symm.trans (by rw [hx]; rfl)))))))
                all_goals
                  go_roundw
                  case rel => exact ⟨i + 1, by go_num, by omega, b12⟩
                  case measure => simp [intOf]; omega
              · obtain rfl : i = n := by omega
                go_wp2_with (first
                  | (go_at_call 9; ((with_reducible refine (shAwake_any H _).mono ?_); rintro r9 w99 ⟨rfl, h99⟩)))
                go_ret
                exact ⟨rfl, b10.trans ((hb.trans (h99.mono hb.size)).mono b10.size)⟩
        · generalize max (0 : Int) ((L.length : Int) - (k : Int)) = R at hz hrs
          have l4 : EList wr.drew (From B) sa n d S := hl.on ⟨Nat.le_refl _, fun _ _ _ => rfl⟩
          have b4 := hb.drew
          have s4 : B ≤ wr.drew.heap.size := hs
          have hd4 := dice_drew hd
          have HRS := Lib.hid hrs
          clear hrs hd hl hb
          go_wp2_with (first
            | (go_at_call 12; ((with_reducible refine HRS.out.mono ?_); rintro r9 w2 ⟨rfl, rfl⟩))
            | (go_at_call 13; ((with_reducible refine (rolled_any _ _ _ _ _ hd4 hzl).mono ?_); rintro r9 w3 ⟨eb, ek, ev, em, ez, eo, rfl, ok3, q2, q3, q4, hd3, hg3⟩; have l3 := l4.on (Same.grown hg3 hnF); have b3 := e_below b4 hg3 hgb b4.size; have s3 := Nat.le_trans s4 hg3.size; clear q2 q3 q4))
            | (go_at_call 18; ((with_reducible refine (ref_install eb ek ev em ez eo _ l3 (by omega) s3).mono ?_); rintro r9 w5 ⟨y1, y2, y3, y4, y5, y6, yB, a5, n5, k5, rfl, l5, m5, h5⟩; have b5 := b3.trans (h5.mono b3.size); have s5 := Nat.le_trans s3 h5.size; have hd5 := dice_on hd3 h5 (Nat.le_refl _))))
          have v5 := valid_install (e := ⟨eb, ek, ev, em, ez, eo⟩) hv
          go_roundw
          case rel => exact ⟨j + 1, _, _, a5, n5, k5, by go_num, by omega, rfl, l5, v5, by omega, by omega, hd5, s5, b5⟩
          case measure => simp [intOf]; omega
      · obtain rfl : j = 30 := by omega
        have l4 := hl
        have b4 := hb
        have s4 := hs
        clear hd hl hb hv
        have e3 := HE3.out
        have e4 := HE4.out
        obtain ⟨u0, u1⟩ := HU.out
        obtain ⟨v0, v1⟩ := HW.out
        go_wp2_with (first
          | (go_at_call 23; ((with_reducible refine (sh_drop H P _ l4 hn4 s4).mono ?_); rintro r9 w5 ⟨a5, m5, c5, a5g, m5g, c5g, rfl, l5, g5, n5, h5⟩; have b5 := b4.trans (h5.mono b4.size); have s5 := Nat.le_trans s4 h5.size; have l4 := l4.keep h5; obtain ⟨q1, q2, q3, q4⟩ := sum_len l5.length g5.length l4.length (stay_gone (c := P) HV.out) hn4; clear g5 e3 e4 u0 u1 v0 v1))
          | (go_at_call 23; ((with_reducible refine (sh_drop H P _ l5 (Nat.le_trans n5 hn4) s5).mono ?_); rintro r9 w6 ⟨a6, m6, c6, a6g, m6g, c6g, rfl, l6, g6, n6, h6⟩; have b6 := b5.trans (h6.mono b5.size); have s6 := Nat.le_trans s5 h6.size; have l4 := l4.keep h6; have l5 := l5.keep h6; have gl := g6.length; rw [(stay_again HV.out).2] at gl; obtain rfl : m6g = 0 := gl.symm; rw [(stay_again HV.out).1] at l6; clear g6 gl))
          | (go_at_call 23; ((with_reducible refine (sh_drop H Q _ l5 (Nat.le_trans n5 hn4) s6).mono ?_); rintro r9 w7 ⟨a7, m7, c7, a7g, m7g, c7g, rfl, l7, g7, n7, h7⟩; have b7 := b6.trans (h7.mono b6.size); have s7 := Nat.le_trans s6 h7.size; have l4 := l4.keep h7; have l5 := l5.keep h7; have l6 := l6.keep h7; clear g7; rcases max_cases P Q with ⟨hpq, hmx⟩ | ⟨hpq, hmx⟩))
          | (go_at_call 23; ((with_reducible refine (sh_drop H Q _ l4 hn4 s7).mono ?_); rintro r9 w8 ⟨a8, m8, c8, a8g, m8g, c8g, rfl, l8, g8, n8, h8⟩; have b8 := b7.trans (h8.mono b7.size); have s8 := Nat.le_trans s7 h8.size; have l4 := l4.keep h8; have l5 := l5.keep h8; have l6 := l6.keep h8; have l7 := l7.keep h8; rw [stay_two HV.out, hmx.out] at l7; clear g8))
          | (go_at_call 23; ((with_reducible refine (sh_drop H P _ l4 hn4 s7).mono ?_); rintro r9 w8 ⟨a8, m8, c8, a8g, m8g, c8g, rfl, l8, g8, n8, h8⟩; have b8 := b7.trans (h8.mono b7.size); have s8 := Nat.le_trans s7 h8.size; have l4 := l4.keep h8; have l5 := l5.keep h8; have l6 := l6.keep h8; have l7 := l7.keep h8; rw [stay_two HV.out, hmx.out] at l7; clear g8))
          | (go_at_call 24; ((with_reducible refine (refSame_any _ _ _ a5 a6 m5 c5 c6 m6 _ l5 l6).mono ?_); rintro r9 w9 ⟨rfl, h9⟩; have b9 := b8.trans (h9.mono b8.size); have s9 := Nat.le_trans s8 h9.size; have l4 := l4.keep h9; have l5 := l5.keep h9; have l7 := l7.keep h9; have l8 := l8.keep h9))
          | (go_at_call 24; ((with_reducible refine (refSame_any _ _ _ a7 a8 m7 c7 c8 m8 _ l7 l8).mono ?_); rintro r9 w10 ⟨rfl, h10⟩; have b10 := b9.trans (h10.mono b9.size); have s10 := Nat.le_trans s9 h10.size; have l4 := l4.keep h10; have l5 := l5.keep h10)))
        all_goals
          have hlen4 := l4.length
          have HX := Lib.hid (fun W (h : Below w10.heap.size w10 W) i (hi : i < n) => (l4.keep h).ent i hi)
          have HL5 := Lib.hid (fun W (h : Below w10.heap.size w10 W) => l5.keep h)
          clear l4 l5 l6 l7 l8
          have hmx4 : n ≤ 1000 := hn4
          go_loopw [20] (fun c wr => ∃ j : Nat, c = .int .i64 (j : Int) ∧ j ≤ n ∧ Below w10.heap.size w10 wr) (fun c _ => n - (intOf c).toNat)
          case atStart => exact ⟨0, rfl, by omega, Below.refl _ _⟩
          case round =>
            obtain ⟨i, rfl, hi, hb⟩ := hrel
            by_cases hlt : i < n
            · obtain ⟨x, e, rfl, he, hat⟩ := HX.out wr hb i hlt
              have hiI : (i : Int) < (n : Int) := by omega
              have hfs := find_stay (c := P) HV.out (List.mem_of_getElem? he)
              rw [find_look (valid_stay HV.out)] at hfs
              have hkp := Lib.hid (fun v1 (h : Below wr.heap.size wr v1) => EntAt.kept hat h hat.lt)
              have l9 := HL5.out wr hb
              have s11 := Nat.le_trans s10 hb.size
              clear he
              obtain ⟨eb, ek, ev, em, ez, eo⟩ := e
              have hgc : gone P ⟨eb, ek, ev, em, ez, eo⟩ = (decide (ek = 2) && decide (ev < P)) := rfl
              rw [hgc] at hfs
              obtain ⟨c0, c1, c2, c3, c4, c5⟩ := hat
              try simp only at c0 c1 c2 c3 c4 c5 hkp hfs
              have HFS := Lib.hid hfs
              clear hgc hfs
              go_wp2_with (first
                | (go_at_call 20; ((with_reducible refine (sh_find H eb _ l9 (Nat.le_trans n5 hn4) (valid_stay HV.out)).mono ?_); rintro r9 w12 (⟨x1, x2, x3, x4, x5, x6, hx, rfl, h12⟩ | ⟨hx, rfl, h12⟩) <;> (first | (have hx9 : lookE (stayL S P) eb = some ⟨x1, x2, x3, x4, x5, x6⟩ := hx; have b12 := (hb.trans (h12.mono hb.size)).alloc (hb.trans (h12.mono hb.size)).size (entRow x1 x2 x3 x4 x5 x6); clear c0 c1 c2 c3 c4 c5; obtain ⟨c0, c1, c2, c3, c4, c5⟩ := hkp.out _ (h12.alloc h12.size (entRow x1 x2 x3 x4 x5 x6)); rcases gone_cases (HFS.out.symm.trans (by rw [hx9]; rfl)) with ⟨t1, t2⟩ | t1) | (have b12 := (hb.trans (h12.mono hb.size)).alloc (hb.trans (h12.mono hb.size)).size (entRow 0 0 0 0 0 0); clear c0 c1 c2 c3 c4 c5; obtain ⟨c0, c1, c2, c3, c4, c5⟩ := hkp.out _ (h12.alloc h12.size (entRow 0 0 0 0 0 0)); obtain ⟨t1, t2⟩ := gone_yes (HFS.out.symm.trans (by rw [hx]; rfl)))))))
              all_goals
                go_roundw
                case rel => exact ⟨i + 1, by go_num, by omega, b12⟩
                case measure => simp [intOf]; omega
            · obtain rfl : i = n := by omega
              go_wp2_with (first
                | (go_at_call 9; ((with_reducible refine (shAwake_any H _).mono ?_); rintro r9 w99 ⟨rfl, h99⟩)))
              go_ret
              exact ⟨rfl, b10.trans ((hb.trans (h99.mono hb.size)).mono b10.size)⟩
  · rw [decide_eq_false hlen] at hli
    have HLI := Lib.hid hli
    clear hli
    go_enter Try.func6, Try.ntmps6
    go_wp2_with (first
      | (go_at_call 10; ((with_reducible refine HLI.out.mono ?_); rintro e w0 ⟨rfl, rfl⟩))
      | (go_at_call 9; ((with_reducible refine (shAwake_any H _).mono ?_); rintro e w1 ⟨rfl, hb1⟩)))
    go_ret
    exact ⟨rfl, hb1⟩
end Go.Proofs.Ytbaclgedohpibaa.Ents
