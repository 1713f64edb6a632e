/- Texts that belong together, part 26. -/
import Derived.Test.YtnmhnjjehglcfaaGreatPack25
import Derived.Deep.DeepCutAuto

/- The walk of the program's tryPair. -/
namespace Go.Proofs.YtnmhnjjehglcfaaGreat.Ents
open Go.RowKit Plan HisMath LinMath Rws Env LayMath Bits SrchM
end Go.Proofs.YtnmhnjjehglcfaaGreat.Ents

/- The walk of the program's finish: a search of pairs. -/
namespace Go.Proofs.YtnmhnjjehglcfaaGreat.Ents
open Go.RowKit Plan HisMath LinMath Rws Env LayMath Bits SrchM
theorem own_len {α : Type} {R : Row α} (hR : R.Ok) {w W : World} {T : List Thing} {v : Value} {n : Nat} {L : List α} (K : Env w W T) (i : Nat) (h : T[i]? = some (Env.lst R v n L)) : L.length = n := by
  have h1 := (K.own i h).1
  rw [all_length hR] at h1
  exact Nat.eq_of_mul_eq_mul_right hR.pos h1

theorem own_cut {α : Type} {R : Row α} (hR : R.Ok) {w W : World} {T : List Thing} {gg n c m : Nat} {L : List α} (K : Env w W T) (i : Nat) (h : T[i]? = some (Env.lst R (Env.slv gg n c) n L)) (hm : m ≤ n) {L' : List α} (hL : L.take m = L') {F : Nat → Prop} : Env w W (T.set i (Env.lst R (Env.slv gg m c) m L')) ∧ Keep w F W T W (T.set i (Env.lst R (Env.slv gg m c) m L')) := by
  have hlen := own_len hR K i h
  have hown := K.own i h
  have hnew : W.ownsRow w.heap.size R.et R.sz (Env.slv gg m c) m (R.all L') := by
    obtain ⟨h1, h2⟩ := hown
    refine ⟨by rw [all_length hR, ← hL, List.length_take, hlen, Nat.min_eq_left hm], ?_⟩
    rcases h2 with ⟨h2, _⟩ | ⟨g', c', cur, h2, h3, h4, h5, h6, h7, h8⟩
    · cases h2
    · cases h2
      refine .inr ⟨gg, c, cur, rfl, h3, h4, Nat.le_trans hm h5, h6, h7, ?_⟩
      rw [← hL, all_take hR, ← h8, List.take_take, Nat.min_eq_left (Nat.mul_le_mul_right _ hm)]
  have hgr : W.grownBy W (some gg) := ⟨rfl, rfl, rfl, Nat.le_refl _, fun _ _ _ => rfl⟩
  exact ⟨K.set hgr i h (fun g' e => e) hnew (fun g' e => .inl e), K.keep_set hgr i h (fun g' e => e) (fun g' e => .inl e)⟩
end Go.Proofs.YtnmhnjjehglcfaaGreat.Ents

/- The walk of the document's Allowed. -/
namespace Go.Proofs.YtnmhnjjehglcfaaGreat.Ents
open Go.RowKit Plan HisMath LinMath DurMath ModMath CmdMath Rws Env LayMath
theorem no_list (w : World) (F : Nat → Prop) : SList w F none 0 0 [] := .inl ⟨trivial, rfl, rfl, rfl⟩
set_option maxHeartbeats 8000000 in
set_option maxRecDepth 20000 in
theorem refAllowed_any (F G : Nat → Prop) (B : List ByteArray) (L : List Ev) (b : Int) (a a2 : Option Addr) (n c m d : Nat) (w : World) (hl : SList w F a n c B) (hk : VList w G a2 m d L) (hm : m ≤ 100000) :
    Calls Tryz.prog 33 #[.slice a n c, .slice a2 m d, .int .i64 b] w (SPost w (fun _ => False) (allowE B L b)) := by
  have hln := hl.length
  have hlm := hk.length
  have HSZ := Lib.hid (refSizes_any F G B L a a2 n c m d w hl hk)
  have hb := Below.refl w.heap.size w
  unfold SPost
  by_cases h0 : sizesE B L = 0
  · rw [h0] at HSZ
    by_cases h1 : b < 0
    · rw [show allowE B L b = [] by unfold allowE; rw [if_pos (.inr (.inl h1))]]
      clear hl hk
      go_enter Tryz.func33, Tryz.ntmps33
      go_wp2_with (first
        | (go_at_call 40; ((with_reducible refine (HSZ.out).mono ?_); rintro r9 w1 ⟨rfl, hb⟩)))
      go_ret
      exact ⟨_, _, _, rfl, no_list _ _, hb⟩
    · by_cases h2 : (n : Int) ≤ b
      · rw [show allowE B L b = [] by unfold allowE; rw [if_pos (.inr (.inr (by rw [hln]; exact h2)))]]
        clear hl hk
        go_enter Tryz.func33, Tryz.ntmps33
        go_wp2_with (first
          | (go_at_call 40; ((with_reducible refine (HSZ.out).mono ?_); rintro r9 w1 ⟨rfl, hb⟩)))
        go_ret
        exact ⟨_, _, _, rfl, no_list _ _, hb⟩
      · obtain ⟨bi, rfl⟩ : ∃ bi : Nat, b = (bi : Int) := ⟨b.toNat, by omega⟩
        have hbi : bi < n := by omega
        have hbI : (bi : Int) < (n : Int) := by omega
        have hb0 : (0 : Int) ≤ (bi : Int) := by omega
        clear h1 h2
        have hR := (sizes_parts h0).1
        have HIRR := Lib.hid (before_irr hR)
        have HPT := Lib.hid (fun W (h : Below w.heap.size w W) => refPoint_any _ L a2 m d W (hk.same h))
        have HOP := Lib.hid (fun W (h : Below w.heap.size w W) => refOps_any _ L a2 m d W (hk.same h) hm)
        unfold VPost at HOP
        have hpm := pt_le L m
        have hal : allowE B L (bi : Int) = if firstE L (opsE L m) (ptE L m) (bi : Int) (opsE L m).length then putE (outE L (opsE L m) (ptE L m) (bi : Int) (opsE L m).length) (B.getD bi ⟨#[]⟩) else outE L (opsE L m) (ptE L m) (bi : Int) (opsE L m).length := by
          unfold allowE
          rw [if_neg (by omega), hlm]
          rfl
        rw [hal]
        have hom : (opsE L m).length ≤ m := by
          rw [ops_right hR m (by omega), List.length_map]
          exact Nat.le_trans (List.length_filter_le _ _) (by rw [List.length_take]; omega)
        obtain ⟨ol, hol⟩ : ∃ k, (opsE L m).length = k := ⟨_, rfl⟩
        rw [hol] at hom ⊢
        generalize hO : opsE L m = O at *
        generalize ptE L m = P at *
        clear hal hR hO h0
        have HAH0 := Lib.hid (fun W (h : Below w.heap.size w W) s => refAhead_any _ L a2 m d s P W (hk.same h) hpm)
        have HBF0 := Lib.hid (fun W (h : Below w.heap.size w W) s t => refBefore_any _ L a2 m d s t W (hk.same h))
        have HCG := Lib.hid (fun k b c s W => refChanges_any k b c s W)
        have HVL := Lib.hid (fun k b s W => refDValue_any k b s W)
        have HPU := Lib.hid (fun W pa pn pc X v (h : SList W (fun y => w.heap.size ≤ y) pa pn pc X) (hm : pn ≤ 400000) => refPut2_any (fun y => w.heap.size ≤ y) X v pa pn pc W h hm)
        unfold SPost at HPU
        have HBAT := Lib.hid (fun W (h : Below w.heap.size w W) => (show ∃ x s, a = some x ∧ B[bi]? = some s ∧ W.cell? (x.add bi) = some (.string s) from str_at (hl.same h) bi hbi))
        have hcn := hl.cap
        unfold maxLen at hcn
        clear hl hk
        go_enter Tryz.func33, Tryz.ntmps33
        go_upto_region 5 with (first
          | (go_at_call 40; ((with_reducible refine (HSZ.out).mono ?_); rintro r9 w1 ⟨rfl, hb⟩))
          | (go_at_call 63; ((with_reducible refine (HPT.out _ hb).mono ?_); rintro r9 w2 ⟨rfl, h9⟩; replace hb := hb.trans (h9.mono hb.size); clear h9))
          | (go_at_call 41; ((with_reducible refine (HOP.out _ hb).mono ?_); rintro r9 w3 ⟨oa, om, oc, rfl, lo, h9⟩; replace hb := hb.trans (h9.mono hb.size); clear h9)))
        clear HSZ HPT HOP
        obtain rfl : ol = om := hol.symm.trans lo.length
        have HOAT := Lib.hid (fun W (h : Below w3.heap.size w3 W) i (hi : i < ol) => ev_at (lo.same h) i hi)
        have HW := Lib.hid (fun W (h : Below w3.heap.size w3 W) => hb.trans (h.mono hb.size))
        have HAH := Lib.hid (fun W (h : Below w3.heap.size w3 W) s => HAH0.out W (HW.out W h) s)
        have HBF := Lib.hid (fun W (h : Below w3.heap.size w3 W) s t => HBF0.out W (HW.out W h) s t)
        have HFALL := Lib.hid (fun x => (show (O.take ol).any (coP L P (bi : Int) x) = covB L O P (bi : Int) x by rw [List.take_of_length_le (by omega)]; rfl))
        have hoc := lo.cap
        unfold maxLen at hoc
        have HB3 := Lib.hid hb
        have hb3 := hb.size
        clear hb lo HAH0 HBF0
        have hb := Below.refl w3.heap.size w3
        go_wp2_with fail
        go_loopw [9, 10, 11] (fun o f x wr => ∃ (i : Nat) (pa : Option Addr) (pn pc : Nat), o = .slice pa pn pc ∧ f = .bool (firstE L O P (bi : Int) i) ∧ x = .int .i64 (i : Int) ∧ i ≤ ol ∧ RowKit.Hid (SList wr (fun y => w.heap.size ≤ y) pa pn pc (outE L O P (bi : Int) i)) ∧ pn ≤ i ∧ Below w3.heap.size w3 wr) (fun _ _ x _ => ol - (intOf x).toNat)
        case atStart => exact ⟨0, none, 0, 0, rfl, rfl, rfl, by omega, Lib.hid (no_list _ _), by omega, hb⟩
        case round =>
          clear hb
          obtain ⟨i, pa, pn, pc, rfl, rfl, rfl, hi, LP, hpn, hb⟩ := hrel
          by_cases hlt : i < ol
          · obtain ⟨x, e, rfl, he, c0, c1, c2, c3, c4, c5, c6, c7⟩ := HOAT.out wr hb i hlt
            have hjI : (i : Int) < (ol : Int) := by omega
            have HX := Lib.hid he
            have HQ := Lib.hid (out_next (L := L) (n := P) (b := (bi : Int)) he)
            have HF := Lib.hid (first_next (L := L) (n := P) (b := (bi : Int)) he)
            have hcand : candB (bi : Int) e = (chK e.kind e.block (bi : Int) && (!e.ret || decide (e.err = 0))) := rfl
            have HCV := Lib.hid (HFALL.out e)
            have HCN := Lib.hid (fun j y (h : O[j]? = some y) => cov_next (L := L) (n := P) (b := (bi : Int)) (x := e) h)
            obtain ⟨er, eq, es, ek, eb, ed, ee, ex⟩ := e
            simp only at c0 c1 c2 c3 c4 c5 c6 c7 hcand
            clear he
            go_upto_region 11 with fail
            have K := (Env.start wr).al (.cells #[.bool er, .int .i64 eq, .int .i64 es, .int .i64 ek, .int .i64 eb, .string ed, .int .i64 ee, .string ex] 55)
            obtain ⟨g, hg⟩ : ∃ g, wr.heap.size = g := ⟨_, rfl⟩
            rw [hg] at K
            simp only [hg]
            generalize wr.alloc (.cells #[.bool er, .int .i64 eq, .int .i64 es, .int .i64 ek, .int .i64 eb, .string ed, .int .i64 ee, .string ex] 55) = w4 at *
            clear c0 c1 c2 c3 c4 c5 c6 c7 hg
            obtain ⟨c0, c1, c2, c3, c4, c5, c6, c7⟩ := ev_cells (K.get 0 rfl)
            go_cut [58] (fun s wx => ∃ q : Bool, s = .bool q ∧ candB (bi : Int) (⟨er, eq, es, ek, eb, ed, ee, ex⟩ : Ev) = !q ∧ Env wr wx [.box g (.cells #[.bool er, .int .i64 eq, .int .i64 es, .int .i64 ek, .int .i64 eb, .string ed, .int .i64 ee, .string ex] 55)])
            case first =>
              obtain ⟨qc, hqc⟩ : ∃ qc, chK ek eb (bi : Int) = qc := ⟨_, rfl⟩
              have HCG2 := Lib.hid (fun W => HCG.out ek eb (bi : Int) ed W)
              rw [hqc] at hcand HCG2
              cases qc with
              | false =>
                go_wp2_with (first
                  | (go_at_call 64; ((with_reducible refine (HCG2.out _).mono ?_); rintro r9 w9 ⟨rfl, h9⟩; replace K := K.on h9; clear h9 c0 c1 c2 c3 c4 c5 c6 c7; obtain ⟨c0, c1, c2, c3, c4, c5, c6, c7⟩ := ev_cells (K.get 0 rfl))))
                go_meet
                exact ⟨true, rfl, by rw [hcand]; rfl, K⟩
              | true =>
                cases er with
                | false =>
                  go_wp2_with (first
                    | (go_at_call 64; ((with_reducible refine (HCG2.out _).mono ?_); rintro r9 w9 ⟨rfl, h9⟩; replace K := K.on h9; clear h9 c0 c1 c2 c3 c4 c5 c6 c7; obtain ⟨c0, c1, c2, c3, c4, c5, c6, c7⟩ := ev_cells (K.get 0 rfl))))
                  go_meet
                  exact ⟨false, rfl, by rw [hcand]; rfl, K⟩
                | true =>
                  by_cases hz : ee = 0
                  · subst hz
                    go_wp2_with (first
                      | (go_at_call 64; ((with_reducible refine (HCG2.out _).mono ?_); rintro r9 w9 ⟨rfl, h9⟩; replace K := K.on h9; clear h9 c0 c1 c2 c3 c4 c5 c6 c7; obtain ⟨c0, c1, c2, c3, c4, c5, c6, c7⟩ := ev_cells (K.get 0 rfl))))
                    go_meet
                    exact ⟨false, rfl, by rw [hcand]; simp, K⟩
                  · have d1 : (ee == 0) = false := by simpa using hz
                    have d2 : (ee != 0) = true := by simpa using hz
                    go_wp2_with (first
                      | (go_at_call 64; ((with_reducible refine (HCG2.out _).mono ?_); rintro r9 w9 ⟨rfl, h9⟩; replace K := K.on h9; clear h9 c0 c1 c2 c3 c4 c5 c6 c7; obtain ⟨c0, c1, c2, c3, c4, c5, c6, c7⟩ := ev_cells (K.get 0 rfl))))
                    go_meet
                    exact ⟨true, rfl, by rw [hcand]; simp [hz], K⟩
            case rest =>
              clear K c0 c1 c2 c3 c4 c5 c6 c7 hcand
              obtain ⟨q, rfl, hq, K⟩ := hcut
              cases q with
              | true =>
                have HQ2 := HQ.out.2 (by rw [hq]; rfl)
                have HF2 := HF.out
                rw [hq] at HF2
                simp only [Bool.not_true, Bool.not_false, Bool.true_or, Bool.and_true] at HF2
                clear HQ HF hq HCV HCN HX
                have LP2 := Lib.hid ((LP.out.cut.on (Same.below K.hb)).mono fun _ _ h => h.1)
                go_wp2_with fail
                go_roundw
                case rel => exact ⟨i + 1, pa, pn, pc, rfl, by rw [HF2], by go_num, by omega, Lib.hid (by rw [HQ2]; exact LP2.out), by omega, hb.trans (K.hb.mono hb.size)⟩
                case measure => simp [intOf]; omega
              | false =>
                simp only [Bool.not_false] at hq
                go_upto_region 12 with fail
                obtain ⟨c0, c1, c2, c3, c4, c5, c6, c7⟩ := ev_cells (K.get 0 rfl)
                have HF2 := HF.out
                rw [hq] at HF2
                simp only [Bool.not_true, Bool.false_or] at HF2
                have HF3 := Lib.hid HF2
                clear HF HF2
                generalize hfb : DurMath.firstE L O P (bi : Int) i = fb at *
                go_cut [10] (fun s wx => ∃ q : Bool, s = .bool q ∧ q = DurMath.firstE L O P (bi : Int) (i + 1) ∧ Env wr wx [.box g (.cells #[.bool er, .int .i64 eq, .int .i64 es, .int .i64 ek, .int .i64 eb, .string ed, .int .i64 ee, .string ex] 55)])
                case first =>
                  cases fb with
                  | false =>
                    go_wp2_with fail
                    go_meet
                    exact ⟨false, rfl, by rw [HF3.out]; rfl, K⟩
                  | true =>
                    have HAH1 := Lib.hid (fun W h => HAH.out W h es)
                    have HF4 := HF3.out
                    clear HF3
                    generalize ahB L es P = qa at *
                    have HF5 := Lib.hid HF4
                    clear HF4
                    go_wp2_with (first
                      | (go_at_call 65; ((with_reducible refine (HAH1.out _ (hb.trans (K.hb.mono hb.size))).mono ?_); rintro r9 w9 ⟨rfl, h9⟩; replace K := K.on h9; clear h9 c0 c1 c2 c3 c4 c5 c6 c7; obtain ⟨c0, c1, c2, c3, c4, c5, c6, c7⟩ := ev_cells (K.get 0 rfl))))
                    go_meet
                    exact ⟨_, rfl, by rw [HF5.out]; rfl, K⟩
                case rest =>
                  clear K c0 c1 c2 c3 c4 c5 c6 c7 HF3 hfb
                  obtain ⟨fb2, rfl, hfb2, K⟩ := hcut
                  have HFB := Lib.hid hfb2
                  have HQC := Lib.hid hq
                  clear hfb2 hq
                  go_wp2_with fail
                  go_loopw [13, 14] (fun cv y wz => ∃ k : Nat, cv = .bool ((O.take k).any (coP L P (bi : Int) ⟨er, eq, es, ek, eb, ed, ee, ex⟩)) ∧ y = .int .i64 (k : Int) ∧ k ≤ ol ∧ Env wr wz [.box g (.cells #[.bool er, .int .i64 eq, .int .i64 es, .int .i64 ek, .int .i64 eb, .string ed, .int .i64 ee, .string ex] 55)]) (fun _ y _ => ol - (intOf y).toNat)
                  case atStart => exact ⟨0, rfl, rfl, by omega, K⟩
                  case round =>
                    clear K
                    obtain ⟨k, rfl, rfl, hk, K⟩ := hrel
                    by_cases hkl : k < ol
                    · obtain ⟨x2, y, e9, hy, b0, b1, b2, b3, b4, b5, b6, b7⟩ := HOAT.out _ (hb.trans (K.hb.mono hb.size)) k hkl
                      obtain rfl := Option.some.inj e9
                      have hkI : (k : Int) < (ol : Int) := by omega
                      have HC2 := Lib.hid (HCN.out k y hy)
                      have HSELF := Lib.hid (fun (h : k = i) => (show coP L P (bi : Int) ⟨er, eq, es, ek, eb, ed, ee, ex⟩ y = false from by
                        subst h
                        have h9 := HX.out
                        rw [hy] at h9
                        obtain rfl := Option.some.inj h9
                        unfold coP
                        rw [HIRR.out]
                        simp))
                      obtain ⟨yr, yq, ys, yk, yb, yd, ye, yx⟩ := y
                      simp only at b0 b1 b2 b3 b4 b5 b6 b7
                      clear hy e9
                      generalize (O.take k).any (coP L P (bi : Int) ⟨er, eq, es, ek, eb, ed, ee, ex⟩) = pv at *
                      go_upto_region 18 with fail
                      clear b0 b1 b2 b3 b4 b5 b6 b7
                      replace K := K.al (.cells #[.bool yr, .int .i64 yq, .int .i64 ys, .int .i64 yk, .int .i64 yb, .string yd, .int .i64 ye, .string yx] 55)
                      obtain ⟨g2, hg2⟩ : ∃ g2, wr.heap.size = g2 := ⟨_, rfl⟩
                      rw [hg2] at K
                      simp only [hg2]
                      generalize wr.alloc (.cells #[.bool yr, .int .i64 yq, .int .i64 ys, .int .i64 yk, .int .i64 yb, .string yd, .int .i64 ye, .string yx] 55) = w6 at *
                      clear hg2
                      obtain ⟨c0, c1, c2, c3, c4, c5, c6, c7⟩ := ev_cells (K.get 1 rfl)
                      obtain ⟨b0, b1, b2, b3, b4, b5, b6, b7⟩ := ev_cells (K.get 0 rfl)
                      cases pv with
                      | true =>
                        go_wp2_with fail
                        go_roundw
                        case rel => exact ⟨k + 1, by rw [HC2.out]; rfl, by go_num, by omega, K.tail⟩
                        case measure => simp [intOf]; omega
                      | false =>
                        by_cases hki : k = i
                        · have hv := Lib.hid (HSELF.out hki)
                          have t1 : ((k : Int) == (i : Int)) = true := by simp; omega
                          have t2 : ((k : Int) != (i : Int)) = false := by simp; omega
                          have t3 : (k : Int) = (i : Int) := by omega
                          go_wp2_with fail
                          go_roundw
                          case rel => exact ⟨k + 1, by rw [HC2.out, hv.out]; rfl, by go_num, by omega, K.tail⟩
                          case measure => simp [intOf]; omega
                        · have t1 : ((k : Int) == (i : Int)) = false := by simp; omega
                          have t2 : ((k : Int) != (i : Int)) = true := by simp; omega
                          have t3 : ¬ (k : Int) = (i : Int) := by omega
                          have HCGY := Lib.hid (fun W => HCG.out yk yb (bi : Int) yd W)
                          have HAHY := Lib.hid (fun W h => HAH.out W h ys)
                          have HBFY := Lib.hid (fun W h => HBF.out W h es ys)
                          have HCO := Lib.hid (show coP L P (bi : Int) ⟨er, eq, es, ek, eb, ed, ee, ex⟩ ⟨yr, yq, ys, yk, yb, yd, ye, yx⟩ = (chK yk yb (bi : Int) && ahB L ys P && beforeB L es ys) from rfl)
                          generalize coP L P (bi : Int) ⟨er, eq, es, ek, eb, ed, ee, ex⟩ ⟨yr, yq, ys, yk, yb, yd, ye, yx⟩ = cv at *
                          generalize chK yk yb (bi : Int) = qc at *
                          generalize ahB L ys P = qa at *
                          generalize beforeB L es ys = qb at *
                          cases qc with
                          | false =>
                            go_wp2_with (first
                              | (go_at_call 64; ((with_reducible refine (HCGY.out _).mono ?_); rintro r9 w9 ⟨rfl, h9⟩; replace K := K.on h9; clear h9 c0 c1 c2 c3 c4 c5 c6 c7 b0 b1 b2 b3 b4 b5 b6 b7; obtain ⟨c0, c1, c2, c3, c4, c5, c6, c7⟩ := ev_cells (K.get 1 rfl); obtain ⟨b0, b1, b2, b3, b4, b5, b6, b7⟩ := ev_cells (K.get 0 rfl))))
                            go_roundw
                            case rel => exact ⟨k + 1, by rw [HC2.out, HCO.out]; rfl, by go_num, by omega, K.tail⟩
                            case measure => simp [intOf]; omega
                          | true =>
                            cases qa with
                            | false =>
                              go_wp2_with (first
                                | (go_at_call 64; ((with_reducible refine (HCGY.out _).mono ?_); rintro r9 w9 ⟨rfl, h9⟩; replace K := K.on h9; clear h9 c0 c1 c2 c3 c4 c5 c6 c7 b0 b1 b2 b3 b4 b5 b6 b7; obtain ⟨c0, c1, c2, c3, c4, c5, c6, c7⟩ := ev_cells (K.get 1 rfl); obtain ⟨b0, b1, b2, b3, b4, b5, b6, b7⟩ := ev_cells (K.get 0 rfl)))
                                | (go_at_call 65; ((with_reducible refine (HAHY.out _ (hb.trans (K.hb.mono hb.size))).mono ?_); rintro r9 w9 ⟨rfl, h9⟩; replace K := K.on h9; clear h9 c0 c1 c2 c3 c4 c5 c6 c7 b0 b1 b2 b3 b4 b5 b6 b7; obtain ⟨c0, c1, c2, c3, c4, c5, c6, c7⟩ := ev_cells (K.get 1 rfl); obtain ⟨b0, b1, b2, b3, b4, b5, b6, b7⟩ := ev_cells (K.get 0 rfl))))
                              go_roundw
                              case rel => exact ⟨k + 1, by rw [HC2.out, HCO.out]; rfl, by go_num, by omega, K.tail⟩
                              case measure => simp [intOf]; omega
                            | true =>
                              go_wp2_with (first
                                | (go_at_call 64; ((with_reducible refine (HCGY.out _).mono ?_); rintro r9 w9 ⟨rfl, h9⟩; replace K := K.on h9; clear h9 c0 c1 c2 c3 c4 c5 c6 c7 b0 b1 b2 b3 b4 b5 b6 b7; obtain ⟨c0, c1, c2, c3, c4, c5, c6, c7⟩ := ev_cells (K.get 1 rfl); obtain ⟨b0, b1, b2, b3, b4, b5, b6, b7⟩ := ev_cells (K.get 0 rfl)))
                                | (go_at_call 65; ((with_reducible refine (HAHY.out _ (hb.trans (K.hb.mono hb.size))).mono ?_); rintro r9 w9 ⟨rfl, h9⟩; replace K := K.on h9; clear h9 c0 c1 c2 c3 c4 c5 c6 c7 b0 b1 b2 b3 b4 b5 b6 b7; obtain ⟨c0, c1, c2, c3, c4, c5, c6, c7⟩ := ev_cells (K.get 1 rfl); obtain ⟨b0, b1, b2, b3, b4, b5, b6, b7⟩ := ev_cells (K.get 0 rfl)))
                                | (go_at_call 44; ((with_reducible refine (HBFY.out _ (hb.trans (K.hb.mono hb.size))).mono ?_); rintro r9 w9 ⟨rfl, h9⟩; replace K := K.on h9; clear h9 c0 c1 c2 c3 c4 c5 c6 c7 b0 b1 b2 b3 b4 b5 b6 b7; obtain ⟨c0, c1, c2, c3, c4, c5, c6, c7⟩ := ev_cells (K.get 1 rfl); obtain ⟨b0, b1, b2, b3, b4, b5, b6, b7⟩ := ev_cells (K.get 0 rfl))))
                              go_roundw
                              case rel => exact ⟨k + 1, by rw [HC2.out, HCO.out]; rfl, by go_num, by omega, K.tail⟩
                              case measure => simp [intOf]; omega
                    · obtain rfl : k = ol := by omega
                      have hkI : ¬ (k : Int) < (k : Int) := by omega
                      have hpl := LP.out.length
                      obtain ⟨c0, c1, c2, c3, c4, c5, c6, c7⟩ := ev_cells (K.get 0 rfl)
                      have HCV2 := HCV.out
                      clear HCV HCN HX
                      generalize hcq : (O.take k).any (coP L P (bi : Int) ⟨er, eq, es, ek, eb, ed, ee, ex⟩) = cq at *
                      cases cq with
                      | true =>
                        have HQ2 := Lib.hid (HQ.out.2 (by rw [← HCV2]; simp))
                        clear HQ hcq HCV2
                        have LP2 := Lib.hid ((LP.out.cut.on (Same.below K.hb)).mono fun _ _ h => h.1)
                        go_wp2_with fail
                        go_roundw
                        case rel => exact ⟨i + 1, pa, pn, pc, rfl, by rw [HFB.out], by go_num, by omega, Lib.hid (by rw [HQ2.out]; exact LP2.out), by omega, hb.trans (K.hb.mono hb.size)⟩
                        case measure => simp [intOf]; omega
                      | false =>
                        have HQ2 := Lib.hid (HQ.out.1 (by rw [← HCV2, HQC.out]; rfl))
                        clear HQ hcq HCV2
                        generalize hxo : outE L O P (bi : Int) i = XO at *
                        have hvb : valB (⟨er, eq, es, ek, eb, ed, ee, ex⟩ : Ev) = valK ek ed := rfl
                        rw [hvb] at HQ2
                        clear hvb hxo
                        have HVL2 := Lib.hid (fun W => HVL.out ek eb ed W)
                        generalize valK ek ed = vv at *
                        go_wp2_with (first
                          | (go_at_call 67; ((with_reducible refine (HVL2.out _).mono ?_); rintro r9 w9 ⟨rfl, h9⟩; replace K := K.on h9; clear h9 c0 c1 c2 c3 c4 c5 c6 c7; obtain ⟨c0, c1, c2, c3, c4, c5, c6, c7⟩ := ev_cells (K.get 0 rfl)))
                          | (go_at_call 66; ((with_reducible refine (HPU.out _ _ _ _ _ _ ((LP.out.cut.on (Same.below K.hb)).mono fun _ _ h => h.1) (by omega)).mono ?_); rintro r9 w9 ⟨pa2, pn2, pc2, rfl, lp2, h9⟩; have HKS := K.hb.size; replace K := K.on h9; clear h9 c0 c1 c2 c3 c4 c5 c6 c7; obtain ⟨c0, c1, c2, c3, c4, c5, c6, c7⟩ := ev_cells (K.get 0 rfl))))
                        have hl2 := lp2.length
                        have hput := put_len XO vv
                        go_roundw
                        case rel => exact ⟨i + 1, pa2, pn2, pc2, rfl, by rw [HFB.out], by go_num, by omega, Lib.hid (by rw [HQ2.out]; exact lp2.mono fun y _ h => h.elim id fun h => Nat.le_trans hb3 (Nat.le_trans hb.size (Nat.le_trans HKS h))), by omega, hb.trans (K.hb.mono hb.size)⟩
                        case measure => simp [intOf]; omega
          · obtain rfl : i = ol := by omega
            have hjI : ¬ (i : Int) < (i : Int) := by omega
            cases hfz : DurMath.firstE L O P (bi : Int) i with
            | true =>
              obtain ⟨x, s, rfl, hs, cb⟩ := HBAT.out wr (HW.out wr hb)
              have hpl := LP.out.length
              have LP9 := Lib.hid LP.out
              go_wp2_with (first
                | (go_at_call 66; ((with_reducible refine (HPU.out _ _ _ _ _ _ LP9.out (by omega)).mono ?_); rintro r9 w9 ⟨pa2, pn2, pc2, rfl, lp2, h9⟩)))
              go_ret
              refine ⟨_, _, _, rfl, ?_, (HW.out wr hb).trans (h9.mono (HW.out wr hb).size)⟩
              rw [(List.getElem?_eq_some_iff.1 hs).2]
              exact lp2.mono fun y _ h => h.elim id fun h => Nat.le_trans (HW.out wr hb).size h
            | false =>
              go_wp2_with fail
              go_ret
              exact ⟨_, _, _, rfl, LP.out, HW.out wr hb⟩
  · rw [show allowE B L b = [] by unfold allowE; rw [if_pos (.inl h0)]]
    generalize sizesE B L = E at *
    have d0 : (E == 0) = false := by simpa using h0
    have d1 : (E != 0) = true := by simpa using h0
    clear hl hk
    go_enter Tryz.func33, Tryz.ntmps33
    go_wp2_with (first
      | (go_at_call 40; ((with_reducible refine (HSZ.out).mono ?_); rintro r9 w1 ⟨rfl, hb⟩)))
    go_ret
    exact ⟨_, _, _, rfl, no_list _ _, hb⟩
end Go.Proofs.YtnmhnjjehglcfaaGreat.Ents

/- The walk of the document's Check of what was found after a crash, and of the laws' within. -/
namespace Go.Proofs.YtnmhnjjehglcfaaGreat.DurMath
open HisMath LinMath ModMath CmdMath
theorem any_next {X : List ByteArray} {p : ByteArray → Bool} {j : Nat} {u : ByteArray} (h : X[j]? = some u) : (X.take (j + 1)).any p = ((X.take j).any p || p u) := by
  rw [List.take_succ_eq_append_getElem (List.getElem?_eq_some_iff.1 h).1, (List.getElem?_eq_some_iff.1 h).2, List.any_append]
  simp
def eqB (s u : ByteArray) : Bool := decide (u = s)
def goodB (B : List ByteArray) (L : List Ev) (X : List ByteArray) (i : Nat) : Bool := match X[i]? with
  | some s => (allowE B L (i : Int)).any (eqB s)
  | none => false
theorem dur_is {B : List ByteArray} {L : List Ev} {X : List ByteArray} (h0 : sizesE B L = 0) (hl : X.length = B.length) : durE B L X = if (List.range B.length).all (goodB B L X) then 0 else 14 := by
  unfold durE
  rw [if_neg (by omega), if_neg (by omega)]
  congr 1
  have : (List.range B.length).all (fun i => (allowE B L (i : Int)).any (fun u => decide (some u = X[i]?))) = (List.range B.length).all (goodB B L X) := by
    rw [Bool.eq_iff_iff, List.all_eq_true, List.all_eq_true]
    have key : ∀ i ∈ List.range B.length, (allowE B L (i : Int)).any (fun u => decide (some u = X[i]?)) = goodB B L X i := fun i hi => by
      have hi2 := List.mem_range.1 hi
      unfold goodB
      rw [List.getElem?_eq_getElem (by omega)]
      congr 1
      funext u
      simp [eqB]
    exact ⟨fun h i hi => by rw [← key i hi]; exact h i hi, fun h i hi => by rw [key i hi]; exact h i hi⟩
  rw [this]
theorem good_all {n : Nat} {p : Nat → Bool} (h : ∀ i, i < n → p i = true) : (List.range n).all p = true := by
  rw [List.all_eq_true]
  exact fun i hi => h i (List.mem_range.1 hi)
theorem good_not {n : Nat} {p : Nat → Bool} {i : Nat} (hi : i < n) (h : p i = false) : (List.range n).all p = false := by
  rw [List.all_eq_false]
  exact ⟨i, List.mem_range.2 hi, by simp [h]⟩
end Go.Proofs.YtnmhnjjehglcfaaGreat.DurMath
namespace Go.Proofs.YtnmhnjjehglcfaaGreat.Ents
open Go.RowKit Plan HisMath LinMath DurMath ModMath CmdMath Rws Env LayMath
set_option maxHeartbeats 8000000 in
set_option maxRecDepth 20000 in
theorem refDCheck_any (F G I : Nat → Prop) (B : List ByteArray) (L : List Ev) (X : List ByteArray) (a a2 a3 : Option Addr) (n c m d p q : Nat) (w : World) (hl : SList w F a n c B) (hk : VList w G a2 m d L) (hx : SList w I a3 p q X) (hm : m ≤ 100000) (hnp : n ≤ 100000) :
    Calls Tryz.prog 68 #[.slice a n c, .slice a2 m d, .slice a3 p q] w fun r w' => r = .returned (.int .i64 (durE B L X)) ∧ Below w.heap.size w w' := by
  have hln := hl.length
  have hlx := hx.length
  have HSZ := Lib.hid (refSizes_any F G B L a a2 n c m d w hl hk)
  by_cases h0 : sizesE B L = 0
  · have hn128 : n ≤ 128 := by have := (sizes_parts h0).2.2.2.1; omega
    have HDU := Lib.hid (fun h => dur_is (X := X) h0 h)
    have HD2 := Lib.hid (fun (h : X.length ≠ B.length) => (show durE B L X = 2 from by unfold durE; rw [if_neg (by omega), if_pos h]))
    rw [h0] at HSZ
    clear h0
    by_cases hpn : p = n
    · subst hpn
      have HD3 := Lib.hid (HDU.out (by omega))
      clear HD2 HDU
      have HAL := Lib.hid (fun W (h : Below w.heap.size w W) (i : Int) => refAllowed_any _ _ B L i a a2 p c m d W (hl.same h) (hk.same h) hm)
      unfold SPost at HAL
      have HXAT := Lib.hid (fun W (h : Below w.heap.size w W) i (hi : i < p) => str_at (hx.same h) i hi)
      have HYES := Lib.hid (fun (h : ∀ i, i < p → goodB B L X i = true) => (show durE B L X = 0 from by rw [HD3.out, hln, good_all h]; rfl))
      have HNOT := Lib.hid (fun i (hi : i < p) (h : goodB B L X i = false) => (show durE B L X = 14 from by rw [HD3.out, hln, good_not hi h]; rfl))
      have hxc := hx.cap
      unfold maxLen at hxc
      generalize durE B L X = R at *
      clear hl hk hx HD3
      go_enter Tryz.func68, Tryz.ntmps68
      go_upto_region 6 with (first
        | (go_at_call 40; ((with_reducible refine (HSZ.out).mono ?_); rintro r9 w1 ⟨rfl, hb⟩)))
      clear HSZ
      go_wp2_with fail
      go_loopw [8] (fun x wr => ∃ i : Nat, x = .int .i64 (i : Int) ∧ i ≤ p ∧ RowKit.Hid (∀ j, j < i → goodB B L X j = true) ∧ Below w.heap.size w wr) (fun x _ => p - (intOf x).toNat)
      case atStart => exact ⟨0, rfl, by omega, Lib.hid (fun j hj => absurd hj (Nat.not_lt_zero _)), hb⟩
      case round =>
        clear hb
        obtain ⟨i, rfl, hi, HG, hb⟩ := hrel
        by_cases hlt : i < p
        · obtain ⟨x3, s, rfl, hs, -⟩ := HXAT.out wr hb i hlt
          have hiI : (i : Int) < (p : Int) := by omega
          have HGI := Lib.hid (show goodB B L X i = (allowE B L (i : Int)).any (eqB s) from by unfold goodB; rw [hs])
          have HAL2 := Lib.hid (fun W h => HAL.out W h (i : Int))
          have HXC := Lib.hid (fun W (h : Below w.heap.size w W) => (show W.cell? (x3.add i) = some (.string s) from by
            obtain ⟨x9, s9, h1, h2, h3⟩ := HXAT.out W h i hlt
            obtain rfl := Option.some.inj h1
            rw [hs] at h2
            obtain rfl := Option.some.inj h2
            exact h3))
          generalize allowE B L (i : Int) = YY at *
          clear hs
          go_upto_region 11 with (first
            | (go_at_call 33; ((with_reducible refine (HAL2.out _ hb).mono ?_); rintro r9 w2 ⟨ya, yn, yc, rfl, ly, h9⟩; replace hb := hb.trans (h9.mono hb.size); clear h9)))
          clear HAL2
          have hly := ly.length
          have hyc := ly.cap
          unfold maxLen at hyc
          have HYAT := Lib.hid (fun W (h : Below w2.heap.size w2 W) k (hk : k < yn) => str_at (ly.same h) k hk)
          have HTK := Lib.hid (show (YY.take yn).any (eqB s) = YY.any (eqB s) by rw [List.take_of_length_le (by omega)])
          have h2 := Below.refl w2.heap.size w2
          clear ly hly
          go_wp2_with fail
          go_loopw [9, 11] (fun o x wr => ∃ k : Nat, o = .bool ((YY.take k).any (eqB s)) ∧ x = .int .i64 (k : Int) ∧ k ≤ yn ∧ Below w2.heap.size w2 wr) (fun _ x _ => yn - (intOf x).toNat)
          case atStart => exact ⟨0, rfl, rfl, by omega, h2⟩
          case round =>
            clear h2
            obtain ⟨k, rfl, rfl, hk, h2⟩ := hrel
            by_cases hky : k < yn
            · obtain ⟨x2, u, rfl, hu, -⟩ := HYAT.out _ h2 k hky
              have hkI : (k : Int) < (yn : Int) := by omega
              have HNX := Lib.hid (any_next (p := eqB s) hu)
              have HUC := Lib.hid (fun W (h : Below w2.heap.size w2 W) => (show W.cell? (x2.add k) = some (.string u) from by
                obtain ⟨x9, s9, h1, h3, h4⟩ := HYAT.out W h k hky
                obtain rfl := Option.some.inj h1
                rw [hu] at h3
                obtain rfl := Option.some.inj h3
                exact h4))
              clear hu
              generalize hpv : (YY.take k).any (eqB s) = pv at *
              go_upto_region 14 with fail
              refine Plan.start (fun W => W.cell? (x2.add k) = some (.string u) ∧ W.cell? (x3.add i) = some (.string s)) [(0, true), (1, true), (2, true), (3, true), (4, true), (5, true), (6, true), (7, true), (8, true), (9, true), (10, true), (11, true), (12, true)] (by kernel_rfl) (by kernel_rfl) (by kernel_rfl) (by kernel_rfl) ⟨HUC.out _ h2.drew, HXC.out _ (hb.trans (h2.drew.mono hb.size))⟩ ?_
              simp only [List.map_cons, List.map_nil, List.getElem?_toArray, List.getElem?_cons_zero, List.getElem?_cons_succ]
              replace h2 := h2.drew
              generalize World.drew _ = w8 at *
              cases pv with
              | true =>
                repeat (first | (refine Plan.take ?_ (by rfl) ?_ ?_; rotate_left; (· rintro w9 ⟨u0, u1⟩; go_simp; (try rw [if_neg (by omega)]); all_goals (with_reducible rfl)); simp only [Act.put, List.setIfInBounds_toArray, List.set_cons_zero, List.set_cons_succ]) | (refine Plan.pass (by rfl) ?_; simp only [Act.put, List.setIfInBounds_toArray, List.set_cons_zero, List.set_cons_succ]))
                refine Plan.ends ?_
                go_wp2_with fail
                go_roundw
                case rel => exact ⟨k + 1, by rw [HNX.out]; rfl, by go_num, by omega, h2⟩
                case measure => simp [intOf]; omega
              | false =>
                by_cases hus : u = s
                · subst hus
                  have e1 : (u == u) = true := (MapKept.bytes_beq u u).2 rfl
                  have e2 : eqB u u = true := decide_eq_true rfl
                  repeat (first | (refine Plan.take ?_ (by rfl) ?_ ?_; rotate_left; (· rintro w9 ⟨u0, u1⟩; go_simp; (try rw [if_neg (by omega)]); all_goals (with_reducible rfl)); simp only [Act.put, List.setIfInBounds_toArray, List.set_cons_zero, List.set_cons_succ]) | (refine Plan.pass (by rfl) ?_; simp only [Act.put, List.setIfInBounds_toArray, List.set_cons_zero, List.set_cons_succ]))
                  refine Plan.ends ?_
                  go_wp2_with fail
                  go_roundw
                  case rel => exact ⟨k + 1, by rw [HNX.out, e2]; rfl, by go_num, by omega, h2⟩
                  case measure => simp [intOf]; omega
                · have e1 : (u == s) = false := ba_ne hus
                  have e3 : (u.toList == s.toList) = false := bal_ne hus
                  have e4 : (s == u) = false := ba_ne (fun h => hus h.symm)
                  have e5 : (s.toList == u.toList) = false := bal_ne (fun h => hus h.symm)
                  have e2 : eqB s u = false := decide_eq_false hus
                  repeat (first | (refine Plan.take ?_ (by rfl) ?_ ?_; rotate_left; (· rintro w9 ⟨u0, u1⟩; go_simp; (try rw [if_neg (by omega)]); all_goals (with_reducible rfl)); simp only [Act.put, List.setIfInBounds_toArray, List.set_cons_zero, List.set_cons_succ]) | (refine Plan.pass (by rfl) ?_; simp only [Act.put, List.setIfInBounds_toArray, List.set_cons_zero, List.set_cons_succ]))
                  refine Plan.ends ?_
                  go_wp2_with fail
                  go_roundw
                  case rel => exact ⟨k + 1, by rw [HNX.out, e2]; rfl, by go_num, by omega, h2⟩
                  case measure => simp [intOf]; omega
            · obtain rfl : k = yn := by omega
              have hkI : ¬ (k : Int) < (k : Int) := by omega
              replace hb := hb.trans (h2.mono hb.size)
              have hg := HGI.out.trans HTK.out.symm
              clear HGI HTK
              generalize (YY.take k).any (eqB s) = gv at *
              cases gv with
              | true =>
                have HG2 := Lib.hid (show ∀ j, j < i + 1 → goodB B L X j = true from fun j hj => by
                  rcases Nat.lt_or_ge j i with h9 | h9
                  · exact HG.out j h9
                  · obtain rfl : j = i := by omega
                    exact hg)
                clear hg
                go_wp2_with fail
                go_roundw
                case rel => exact ⟨i + 1, by go_num, by omega, HG2, hb⟩
                case measure => simp [intOf]; omega
              | false =>
                have HR := Lib.hid (HNOT.out i hlt hg)
                clear hg
                go_wp2_with fail
                go_ret
                exact ⟨r_i HR.out.symm, hb⟩
        · obtain rfl : i = p := by omega
          have hiI : ¬ (i : Int) < (i : Int) := by omega
          have HR := Lib.hid (HYES.out HG.out)
          go_wp2_with fail
          go_ret
          exact ⟨r_i HR.out.symm, hb⟩
    · have e1 : ((p : Int) == (n : Int)) = false := by simp; omega
      have e2 : ((p : Int) != (n : Int)) = true := by simp; omega
      have e3 : ¬ (p : Int) = (n : Int) := by omega
      have HR := Lib.hid (HD2.out (by omega))
      clear hl hk hx HD2 HDU
      go_enter Tryz.func68, Tryz.ntmps68
      go_wp2_with (first
        | (go_at_call 40; ((with_reducible refine (HSZ.out).mono ?_); rintro r9 w1 ⟨rfl, hb⟩)))
      go_ret
      exact ⟨r_i HR.out.symm, hb⟩
  · rw [show durE B L X = sizesE B L by unfold durE; rw [if_pos h0]]
    generalize sizesE B L = E at *
    have d0 : (E == 0) = false := by simpa using h0
    have d1 : (E != 0) = true := by simpa using h0
    clear hl hk hx
    go_enter Tryz.func68, Tryz.ntmps68
    go_wp2_with (first
      | (go_at_call 40; ((with_reducible refine (HSZ.out).mono ?_); rintro r9 w1 ⟨rfl, hb⟩)))
    go_ret
    exact ⟨rfl, hb⟩
end Go.Proofs.YtnmhnjjehglcfaaGreat.Ents

/- What the program promises of crashes, and that it agrees with the document's own. -/
namespace Go.Proofs.YtnmhnjjehglcfaaGreat.Ents
open Go.RowKit Plan HisMath LinMath DurMath ModMath CmdMath Rws Env LayMath
structure DurableOk : Prop where
  allowed : ∀ (F G : Nat → Prop) (B : List ByteArray) (L : List Ev) (b : Int) (a a2 : Option Addr) (n c m d : Nat) (w : World), SList w F a n c B → VList w G a2 m d L → n ≤ 100000 → m ≤ 100000 →
    Calls Tryz.prog 61 #[.slice a n c, .slice a2 m d, .int .i64 b] w (SPost w (fun _ => False) (allowE B L b))
  check : ∀ (F G I : Nat → Prop) (B : List ByteArray) (L : List Ev) (X : List ByteArray) (a a2 a3 : Option Addr) (n c m d p q : Nat) (w : World), SList w F a n c B → VList w G a2 m d L → SList w I a3 p q X → n ≤ 100000 → m ≤ 100000 → p ≤ 100000 →
    Calls Tryz.prog 62 #[.slice a n c, .slice a2 m d, .slice a3 p q] w fun r w' => r = .returned (.int .i64 (durE B L X)) ∧ Below w.heap.size w w'
set_option maxHeartbeats 8000000 in
set_option maxRecDepth 20000 in
theorem durAgree_any (H : DurableOk) (F G I : Nat → Prop) (B : List ByteArray) (L : List Ev) (X : List ByteArray) (b : Int) (a a2 a3 : Option Addr) (n c m d p q : Nat) (w : World) (hl : SList w F a n c B) (hk : VList w G a2 m d L) (hx : SList w I a3 p q X) (hn : n ≤ 100000) (hm : m ≤ 100000) (hp : p ≤ 100000) :
    Calls Tryz.prog 34 #[.slice a n c, .slice a2 m d, .int .i64 b, .slice a3 p q] w fun r w' => r = .returned (.bool true) ∧ Below w.heap.size w w' := by
  have H1 := Lib.hid (fun W (h : Below w.heap.size w W) => H.allowed _ _ B L b a a2 n c m d W (hl.same h) (hk.same h) hn hm)
  have H2 := Lib.hid (fun W (h : Below w.heap.size w W) => refAllowed_any _ _ B L b a a2 n c m d W (hl.same h) (hk.same h) hm)
  have H3 := Lib.hid (fun W (h : Below w.heap.size w W) => H.check _ _ _ B L X a a2 a3 n c m d p q W (hl.same h) (hk.same h) (hx.same h) hn hm hp)
  have H4 := Lib.hid (fun W (h : Below w.heap.size w W) => refDCheck_any _ _ _ B L X a a2 a3 n c m d p q W (hl.same h) (hk.same h) (hx.same h) hm hn)
  have HSM := Lib.hid (fun W F1 F2 E a1 b1 n1 c1 m1 d1 (l1 : SList W F1 a1 n1 c1 E) (l2 : SList W F2 b1 m1 d1 E) => refBSame_any F1 F2 E a1 b1 n1 c1 m1 d1 W l1 l2)
  unfold SPost at H1 H2
  generalize allowE B L b = E at *
  generalize durE B L X = R at *
  have hb := Below.refl w.heap.size w
  clear hl hk hx
  go_enter Tryz.func34, Tryz.ntmps34
  go_wp2_with (first
    | (go_at_call 61; ((with_reducible refine (H1.out _ hb).mono ?_); rintro r9 w1 ⟨ea, en, ec, rfl, le, h9⟩; replace hb := hb.trans (h9.mono hb.size); clear h9))
    | (go_at_call 33; ((with_reducible refine (H2.out _ hb).mono ?_); rintro r9 w2 ⟨ea2, en2, ec2, rfl, le2, h9⟩; replace hb := hb.trans (h9.mono hb.size); replace le := le.same h9; clear h9))
    | (go_at_call 21; ((with_reducible refine (HSM.out _ _ _ _ _ _ _ _ _ _ le le2).mono ?_); rintro r9 w3 ⟨rfl, h9⟩; replace hb := hb.trans (h9.mono hb.size); clear h9 le le2))
    | (go_at_call 62; ((with_reducible refine (H3.out _ hb).mono ?_); rintro r9 w4 ⟨rfl, h9⟩; replace hb := hb.trans (h9.mono hb.size); clear h9))
    | (go_at_call 68; ((with_reducible refine (H4.out _ hb).mono ?_); rintro r9 w5 ⟨rfl, h9⟩; replace hb := hb.trans (h9.mono hb.size); clear h9)))
  go_ret
  first | exact ⟨rfl, hb⟩ | exact ⟨by simp, hb⟩
end Go.Proofs.YtnmhnjjehglcfaaGreat.Ents
