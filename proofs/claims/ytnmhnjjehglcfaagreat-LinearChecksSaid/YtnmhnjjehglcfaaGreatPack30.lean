/- Texts that belong together, part 30. -/
import Derived.Test.YtnmhnjjehglcfaaGreatPack29
import Derived.Deep.DeepCutAuto

/- The walk of the document's Check of linearizations. -/
namespace Go.Proofs.YtnmhnjjehglcfaaGreat.LinMath
open HisMath ModMath
theorem any_none {o : List Int} {j : Nat} {p : Int → Bool} (h : ∀ (i : Nat) (t : Int), i < j → o[i]? = some t → p t = false) : (o.take j).any p = false := by
  rw [List.any_eq_false]
  intro t ht
  obtain ⟨i, hi⟩ := List.mem_iff_getElem?.1 ht
  have hl := (List.getElem?_eq_some_iff.1 hi).1
  rw [List.length_take] at hl
  rw [List.getElem?_take, if_pos (by omega)] at hi
  simp [h i t (by omega) hi]
theorem any_some {o : List Int} {j i : Nat} {p : Int → Bool} {t : Int} (h : o[i]? = some t) (hi : i < j) (hp : p t = true) : (o.take j).any p = true := by
  rw [List.any_eq_true]
  exact ⟨t, List.mem_of_getElem? (by rw [List.getElem?_take, if_pos hi]; exact h), hp⟩
theorem step_before {L : List Ev} {Bi : List ByteArray} {done : List Int} {x : Ev} (h : done.any (fun t => beforeB L x.serial t) = true) : stepB L Bi done x = false := by unfold stepB; rw [h]; simp
theorem step_go {L : List Ev} {Bi : List ByteArray} {done : List Int} {x : Ev} (h1 : ¬ x.serial ∈ done) (h2 : x.ret = false ∨ x.err = 0) (h3 : done.any (fun t => beforeB L x.serial t) = false) (h4 : x.ret = true → (applyR Bi (cmdOf x)).err = x.err ∧ (applyR Bi (cmdOf x)).data = x.res) : stepB L Bi done x = true := by
  unfold stepB
  rw [h3, decide_eq_false h1]
  cases hr : x.ret
  · simp
  · obtain ⟨h5, h6⟩ := h4 hr
    have h7 : x.err = 0 := h2.resolve_left (by rw [hr]; decide)
    rw [h5, h6]
    simp [h7]
theorem step_res {L : List Ev} {Bi : List ByteArray} {done : List Int} {x : Ev} (h1 : x.ret = true) (h2 : ¬ ((applyR Bi (cmdOf x)).err = x.err ∧ (applyR Bi (cmdOf x)).data = x.res)) : stepB L Bi done x = false := by
  unfold stepB
  rw [h1]
  have : (decide ((applyR Bi (cmdOf x)).err = x.err) && decide ((applyR Bi (cmdOf x)).data = x.res)) = false := by
    rw [Bool.and_eq_false_iff]
    by_cases h3 : (applyR Bi (cmdOf x)).err = x.err
    · right; exact decide_eq_false (fun h4 => h2 ⟨h3, h4⟩)
    · left; exact decide_eq_false h3
  rw [this]
  simp
end Go.Proofs.YtnmhnjjehglcfaaGreat.LinMath
namespace Go.Proofs.YtnmhnjjehglcfaaGreat.Ents
open Go.RowKit Plan HisMath LinMath ModMath Rws Env LayMath
set_option maxHeartbeats 8000000 in
set_option maxRecDepth 20000 in
theorem refLinCheck_any (F G0 I : Nat → Prop) (B : List ByteArray) (L : List Ev) (o : List Int) (a b e : Option Addr) (n c m d p q : Nat) (w : World) (hl : SList w F a n c B) (hk : VList w G0 b m d L) (ho : TList IR w I e p q o) (hn : n ≤ 8796093022208) (hm : m ≤ 100000) :
    Calls Tryz.prog 13 #[.slice a n c, .slice b m d, .slice e p q] w fun r w' => r = .returned (.int .i64 (linE B L o)) ∧ Below w.heap.size w w' := by
  have HSZ := Lib.hid (refSizes_any F G0 B L a b n c m d w hl hk)
  have HOP := Lib.hid (fun W (h : Below w.heap.size w W) => refOps_any _ L b m d W (hk.same h) hm)
  unfold VPost at HOP
  have hml := hk.length
  go_enter Tryz.func13, Tryz.ntmps13
  go_upto_if 20 with (first
    | (go_at_call 40; ((with_reducible refine (HSZ.out).mono ?_); rintro r9 w1 ⟨rfl, hb⟩)))
  clear HSZ
  by_cases h0 : sizesE B L = 0
  · rw [h0]
    go_upto_region 5 with (first
      | (go_at_call 41; ((with_reducible refine (HOP.out _ hb).mono ?_); rintro r9 w2 ⟨oa, om, oc, rfl, lo, h9⟩; replace hb := hb.trans (h9.mono hb.size); clear h9)))
    clear HOP
    have hol := lo.length
    have lB : SList w2 (fun _ => True) a n c B := (hl.same hb).mono (fun _ _ _ => trivial)
    have lL : VList w2 (fun b => b < w2.heap.size) b m d L := (hk.same hb).low
    have lI : TList IR w2 (fun b => b < w2.heap.size) e p q o := (ho.same hb).low
    replace lo := lo.low
    have hocp := lo.cap
    have hicp := lI.cap
    unfold maxLen at hocp hicp
    have hil := lI.length
    clear hl hk ho
    have HMB := Lib.hid (fun i x (hx : (opsE L m)[i]? = some x) h1 h2 h3 => (show linE B L o = 17 from lin_must h0 (by rw [hml]; exact @must_bad (opsE L m) o i x hx h1 h2 h3)))
    have HMG := Lib.hid (fun (h : ∀ (i : Nat) (x : Ev), i < om → (opsE L m)[i]? = some x → (x.ret && decide (x.err = 0)) = true → x.serial ∈ o) => must_good (ops := opsE L m) (o := o) (fun i x hi hx => h i x (by omega) hx))
    have HNO := Lib.hid (fun i (hi : i ≤ p) (h : blkAt B L o i = none) => (show linE B L o = 17 from lin_no h0 (by omega) h))
    have HYES := Lib.hid (fun B' (h1 : mustB (opsE L m) o = true) (h2 : blkAt B L o p = some B') => (show linE B L o = 0 from lin_yes h0 (by rw [hml]; exact h1) (by rw [hil]; exact h2)))
    have hw2 := Lib.hid hb
    clear hb
    have K := Env.start w2
    have HO := Lib.hid (fun W (h : Below w2.heap.size w2 W) i (hi : i < om) => ev_at (lo.same h) i hi)
    have HI := Lib.hid (fun W (h : Below w2.heap.size w2 W) i (hi : i < p) => ir_at (lI.same h) i hi)
    have HHAS := Lib.hid (fun W (h : Below w2.heap.size w2 W) s => refHas_any _ o s e p q W (lI.same h))
    go_wp2_with fail
    go_loopw [9] (fun x wr => ∃ j : Nat, x = .int .i64 (j : Int) ∧ j ≤ om ∧ RowKit.Hid (∀ i x, i < j → (opsE L m)[i]? = some x → (x.ret && decide (x.err = 0)) = true → x.serial ∈ o) ∧ Env w2 wr []) (fun x _ => om - (intOf x).toNat)
    case atStart => exact ⟨0, rfl, by omega, Lib.hid (fun i _ hi => absurd hi (Nat.not_lt_zero _)), K⟩
    case round =>
      clear K
      obtain ⟨j, rfl, hj, hall, K⟩ := hrel
      by_cases hlt : j < om
      · obtain ⟨x, y, rfl, hy, z0, z1, z2, z3, z4, z5, z6, z7⟩ := HO.out wr K.hb j hlt
        have hjI : (j : Int) < (om : Int) := by omega
        have HN : ((y.ret && decide (y.err = 0)) = true → y.serial ∈ o) → RowKit.Hid (∀ i x, i < j + 1 → (opsE L m)[i]? = some x → (x.ret && decide (x.err = 0)) = true → x.serial ∈ o) := fun hf => Lib.hid (fun i x hi hx => by
          rcases Nat.lt_or_ge i j with h9 | h9
          · exact hall.out i x h9 hx
          · obtain rfl : i = j := by omega
            rw [hy] at hx; cases hx; exact hf)
        have HMBj := Lib.hid (fun h1 h2 h3 => HMB.out j y hy h1 h2 h3)
        have HEC := Lib.hid (fun W (h : Below w2.heap.size w2 W) => (show EvAt W x j y from by
          obtain ⟨x', e', hx, he', q⟩ := HO.out W h j hlt
          obtain rfl := Option.some.inj hx
          rw [hy] at he'
          obtain rfl := Option.some.inj he'
          exact q))
        obtain ⟨er, eq, es, ek, eb, ed, ee, ex⟩ := y
        simp only at z0 z1 z2 z3 z4 z5 z6 z7 HN HMBj
        have HH := Lib.hid (fun W h => HHAS.out W h es)
        clear hy
        by_cases hin : es ∈ o
        · replace HN := HN (fun _ => hin)
          rw [decide_eq_true hin] at HH
          clear hin
          cases er
          · skip
            go_wp2_with (first
              | (go_at_call 42; ((with_reducible refine (HH.out _ K.hb).mono ?_); rintro r9 w9 ⟨rfl, rfl⟩)))
            go_roundw
            case rel => exact ⟨j + 1, by go_num, by omega, HN, K⟩
            case measure => simp [intOf]; omega
          · by_cases he0 : ee = 0
            · have q1 : (ee == 0) = true := by simpa using he0
              clear he0
              go_wp2_with (first
                | (go_at_call 42; ((with_reducible refine (HH.out _ K.hb).mono ?_); rintro r9 w9 ⟨rfl, rfl⟩)))
              go_roundw
              case rel => exact ⟨j + 1, by go_num, by omega, HN, K⟩
              case measure => simp [intOf]; omega
            · have q1 : (ee == 0) = false := by simpa using he0
              clear he0
              go_wp2_with (first
                | (go_at_call 42; ((with_reducible refine (HH.out _ K.hb).mono ?_); rintro r9 w9 ⟨rfl, rfl⟩)))
              go_roundw
              case rel => exact ⟨j + 1, by go_num, by omega, HN, K⟩
              case measure => simp [intOf]; omega
        · rw [decide_eq_false hin] at HH
          cases er
          · replace HN := HN (fun h => by simp at h)
            clear hin
            go_wp2_with (first
              | (go_at_call 42; ((with_reducible refine (HH.out _ K.hb).mono ?_); rintro r9 w9 ⟨rfl, rfl⟩)))
            go_roundw
            case rel => exact ⟨j + 1, by go_num, by omega, HN, K⟩
            case measure => simp [intOf]; omega
          · by_cases he0 : ee = 0
            · have q1 : (ee == 0) = true := by simpa using he0
              have HX := Lib.hid (HMBj.out rfl he0 hin)
              clear he0 hin HN
              go_wp2_with (first
                | (go_at_call 42; ((with_reducible refine (HH.out _ K.hb).mono ?_); rintro r9 w9 ⟨rfl, rfl⟩)))
              go_ret
              exact ⟨r_i HX.out.symm, hw2.out.trans (K.hb.mono hw2.out.size)⟩
            · have q1 : (ee == 0) = false := by simpa using he0
              replace HN := HN (fun h => by simp [he0] at h)
              clear he0 hin
              go_wp2_with (first
                | (go_at_call 42; ((with_reducible refine (HH.out _ K.hb).mono ?_); rintro r9 w9 ⟨rfl, rfl⟩)))
              go_roundw
              case rel => exact ⟨j + 1, by go_num, by omega, HN, K⟩
              case measure => simp [intOf]; omega
      · obtain rfl : j = om := by omega
        have hjI : ¬ (j : Int) < (j : Int) := by omega
        have HMU := Lib.hid (HMG.out (fun i x hi hx => hall.out i x hi hx))
        have l0 : SList wr (Quiet w2 (fun _ => True) wr []) a n c B := lB.rest0.keep ((Env.start w2).keep_on K.hb)
        clear HMB HMG HO hall hlt hj
        generalize hjj : j = om at *
        clear hjj
        go_wp2_with fail
        have HOPR := Lib.hid (fun W (h : Below w2.heap.size w2 W) s R (hR : opNo (opsE L m) s = R) => (show Calls Tryz.prog 43 #[.slice oa om oc, .int .i64 s] W fun r w' => r = .returned (.tuple #[evV (R.getD ev0), .bool R.isSome]) ∧ Below W.heap.size W w' from by rw [← hR]; exact refOperation_any _ (opsE L m) s oa om oc W (lo.same h)))
        clear lo
        go_loopw [0, 10] (fun t x wr => ∃ (j : Nat) (Bi : List ByteArray) (ai : Option Addr) (ci : Nat), x = .int .i64 (j : Int) ∧ t = .slice ai n ci ∧ j ≤ p ∧ RowKit.Hid (blkAt B L o j = some Bi) ∧ Env w2 wr [] ∧ SList wr (Quiet w2 (fun _ => True) wr []) ai n ci Bi) (fun _ x _ => p - (intOf x).toNat)
        case atStart => exact ⟨0, B, a, c, rfl, rfl, by omega, Lib.hid rfl, K, l0⟩
        case round =>
          clear K l0
          obtain ⟨j, Bi, ai, ci, rfl, rfl, hj, HBi, K, l0⟩ := hrel
          by_cases hlt : j < p
          · obtain ⟨x2, s, rfl, hs, c2⟩ := HI.out wr K.hb j hlt
            have hjI : (j : Int) < (p : Int) := by omega
            have hjq : j ≤ q := by omega
            have HBN := Lib.hid (blk_next HBi.out hs)
            rw [hml] at HBN
            have HCS := Lib.hid (fun W (h : Below w2.heap.size w2 W) => (show W.cell? (x2.add j) = some (.int .i64 s) from by
              obtain ⟨x', y', e1, e2, e3⟩ := HI.out W h j hlt
              obtain rfl := Option.some.inj e1
              rw [hs] at e2
              obtain rfl := Option.some.inj e2
              exact e3))
            have HHJ := Lib.hid (fun W (h : Below w2.heap.size w2 W) => refHas_any _ (o.take j) s (some x2) j q W ((lI.same h).front irOk j hj))
            clear hs
            cases hR : opNo (opsE L m) s with
            | none =>
              have HX := Lib.hid (HNO.out (j + 1) (by omega) (by rw [HBN.out, hR]))
              have HOP0 := Lib.hid (fun W h => (show Calls Tryz.prog 43 #[.slice oa om oc, .int .i64 s] W fun r w' => r = .returned (.tuple #[.agg #[.bool false, .int .i64 0, .int .i64 0, .int .i64 0, .int .i64 0, .string ⟨#[]⟩, .int .i64 0, .string ⟨#[]⟩], .bool false]) ∧ Below W.heap.size W w' from HOPR.out W h s none hR))
              go_upto_region 14 with (first
                | (go_at_call 43; ((with_reducible refine (HOP0.out _ K.hb).mono ?_); rintro r9 w5 ⟨rfl, h9⟩; replace l0 := l0.keep (K.keep_on h9); replace K := K.on h9; clear h9; replace l0 := l0.keep (K.keep_al (.cells #[.bool false, .int .i64 0, .int .i64 0, .int .i64 0, .int .i64 0, .string ⟨#[]⟩, .int .i64 0, .string ⟨#[]⟩] 55)); replace K := K.al (.cells #[.bool false, .int .i64 0, .int .i64 0, .int .i64 0, .int .i64 0, .string ⟨#[]⟩, .int .i64 0, .string ⟨#[]⟩] 55))))
              generalize hw6 : World.alloc w5 _ = w6 at *
              clear hw6
              generalize w5.heap.size = G at *
              refine Plan.start (fun W => W.cell? (x2.add j) = some (.int .i64 s) ∧ W.cell? ⟨G, 0, none⟩ = some (.bool false) ∧ W.cell? ⟨G, 6, none⟩ = some (.int .i64 0)) [(0, true), (1, true), (2, true), (3, true), (4, true), (5, true), (6, true), (7, true), (8, true), (9, true), (10, false), (11, true), (12, true), (13, true), (14, true), (15, true), (16, true), (17, true), (18, true), (19, true), (20, true), (21, true)] (by kernel_rfl) (by kernel_rfl) (by kernel_rfl) (by kernel_rfl) ⟨HCS.out _ K.drew.hb, (ev_cells (K.drew.get 0 rfl)).1, (ev_cells (K.drew.get 0 rfl)).2.2.2.2.2.2.1⟩ ?_
              simp only [List.map_cons, List.map_nil, List.getElem?_toArray, List.getElem?_cons_zero, List.getElem?_cons_succ]
              replace l0 := l0.keep K.keep_drew
              replace K := K.drew
              generalize World.drew _ = w7 at *
              repeat (first | (refine Plan.take ?_ (by rfl) ?_ ?_; rotate_left; (· rintro w9 ⟨u0, u1, u2⟩; go_simp; (try rw [if_neg (by omega)]); all_goals (with_reducible rfl)); simp only [Act.put, List.setIfInBounds_toArray, List.set_cons_zero, List.set_cons_succ]) | (refine Plan.pass (by rfl) ?_; simp only [Act.put, List.setIfInBounds_toArray, List.set_cons_zero, List.set_cons_succ]))
              refine Plan.pass' (by rfl) ⟨HCS.out _ K.hb, (ev_cells (K.get 0 rfl)).1, (ev_cells (K.get 0 rfl)).2.2.2.2.2.2.1⟩ ?_
              simp only [Act.put, List.setIfInBounds_toArray, List.set_cons_zero, List.set_cons_succ]
              repeat (first | (refine Plan.take ?_ (by rfl) ?_ ?_; rotate_left; (· rintro w9 ⟨u0, u1, u2⟩; go_simp; (try rw [if_neg (by omega)]); all_goals (with_reducible rfl)); simp only [Act.put, List.setIfInBounds_toArray, List.set_cons_zero, List.set_cons_succ]) | (refine Plan.pass (by rfl) ?_; simp only [Act.put, List.setIfInBounds_toArray, List.set_cons_zero, List.set_cons_succ]))
              refine Plan.ends ?_
              go_wp2_with fail
              go_ret
              exact ⟨r_i HX.out.symm, hw2.out.trans (K.hb.mono hw2.out.size)⟩
            | some x =>
              obtain ⟨er, eq, es, ek, eb, ed, ee, ex⟩ := x
              have hes : es = s := op_serial hR
              subst hes
              by_cases hin : es ∈ o.take j
              · rw [decide_eq_true hin] at HHJ
                have HX := Lib.hid (HNO.out (j + 1) (by omega) (by rw [HBN.out, hR]; simp only; rw [if_neg]; simp [LinMath.stepB, hin]))
                clear hin
                cases er
                · skip
                  go_upto_region 14 with (first
                    | (go_at_call 43; ((with_reducible refine (HOPR.out _ K.hb _ _ hR).mono ?_); rintro r9 w5 ⟨rfl, h9⟩; replace l0 := l0.keep (K.keep_on h9); replace K := K.on h9; clear h9; replace l0 := l0.keep (K.keep_al (.cells #[.bool false, .int .i64 eq, .int .i64 es, .int .i64 ek, .int .i64 eb, .string ed, .int .i64 ee, .string ex] 55)); replace K := K.al (.cells #[.bool false, .int .i64 eq, .int .i64 es, .int .i64 ek, .int .i64 eb, .string ed, .int .i64 ee, .string ex] 55))))
                  generalize hw6 : World.alloc w5 _ = w6 at *
                  clear hw6
                  generalize w5.heap.size = G at *
                  refine Plan.start (fun W => W.cell? (x2.add j) = some (.int .i64 es) ∧ W.cell? ⟨G, 0, none⟩ = some (.bool false) ∧ W.cell? ⟨G, 6, none⟩ = some (.int .i64 ee)) [(0, true), (1, true), (2, true), (3, true), (4, true), (5, true), (6, true), (7, true), (8, true), (9, true), (10, false), (11, true), (12, true), (13, true), (14, true), (15, true), (16, true), (17, true), (18, true), (19, true), (20, true), (21, true)] (by kernel_rfl) (by kernel_rfl) (by kernel_rfl) (by kernel_rfl) ⟨HCS.out _ K.drew.hb, (ev_cells (K.drew.get 0 rfl)).1, (ev_cells (K.drew.get 0 rfl)).2.2.2.2.2.2.1⟩ ?_
                  simp only [List.map_cons, List.map_nil, List.getElem?_toArray, List.getElem?_cons_zero, List.getElem?_cons_succ]
                  replace l0 := l0.keep K.keep_drew
                  replace K := K.drew
                  generalize World.drew _ = w7 at *
                  repeat (first | (refine Plan.take ?_ (by rfl) ?_ ?_; rotate_left; (· rintro w9 ⟨u0, u1, u2⟩; go_simp; (try rw [if_neg (by omega)]); all_goals (with_reducible rfl)); simp only [Act.put, List.setIfInBounds_toArray, List.set_cons_zero, List.set_cons_succ]) | (refine Plan.pass (by rfl) ?_; simp only [Act.put, List.setIfInBounds_toArray, List.set_cons_zero, List.set_cons_succ]))
                  refine Plan.call (by rfl) 42 _ ?_ (HHJ.out _ K.hb) ?_
                  · go_simp
                  rintro r9 w8 ⟨rfl, rfl⟩
                  refine ⟨_, rfl, ⟨HCS.out _ K.hb, (ev_cells (K.get 0 rfl)).1, (ev_cells (K.get 0 rfl)).2.2.2.2.2.2.1⟩, ?_⟩
                  simp only [Act.put, List.setIfInBounds_toArray, List.set_cons_zero, List.set_cons_succ]
                  repeat (first | (refine Plan.take ?_ (by rfl) ?_ ?_; rotate_left; (· rintro w9 ⟨u0, u1, u2⟩; go_simp; (try rw [if_neg (by omega)]); all_goals (with_reducible rfl)); simp only [Act.put, List.setIfInBounds_toArray, List.set_cons_zero, List.set_cons_succ]) | (refine Plan.pass (by rfl) ?_; simp only [Act.put, List.setIfInBounds_toArray, List.set_cons_zero, List.set_cons_succ]))
                  refine Plan.ends ?_
                  go_wp2_with fail
                  go_ret
                  exact ⟨r_i HX.out.symm, hw2.out.trans (K.hb.mono hw2.out.size)⟩
                · skip
                  go_upto_region 14 with (first
                    | (go_at_call 43; ((with_reducible refine (HOPR.out _ K.hb _ _ hR).mono ?_); rintro r9 w5 ⟨rfl, h9⟩; replace l0 := l0.keep (K.keep_on h9); replace K := K.on h9; clear h9; replace l0 := l0.keep (K.keep_al (.cells #[.bool true, .int .i64 eq, .int .i64 es, .int .i64 ek, .int .i64 eb, .string ed, .int .i64 ee, .string ex] 55)); replace K := K.al (.cells #[.bool true, .int .i64 eq, .int .i64 es, .int .i64 ek, .int .i64 eb, .string ed, .int .i64 ee, .string ex] 55))))
                  generalize hw6 : World.alloc w5 _ = w6 at *
                  clear hw6
                  generalize w5.heap.size = G at *
                  refine Plan.start (fun W => W.cell? (x2.add j) = some (.int .i64 es) ∧ W.cell? ⟨G, 0, none⟩ = some (.bool true) ∧ W.cell? ⟨G, 6, none⟩ = some (.int .i64 ee)) [(0, true), (1, true), (2, true), (3, true), (4, true), (5, true), (6, true), (7, true), (8, true), (9, true), (10, false), (11, true), (12, true), (13, true), (14, true), (15, true), (16, true), (17, true), (18, true), (19, true), (20, true), (21, true)] (by kernel_rfl) (by kernel_rfl) (by kernel_rfl) (by kernel_rfl) ⟨HCS.out _ K.drew.hb, (ev_cells (K.drew.get 0 rfl)).1, (ev_cells (K.drew.get 0 rfl)).2.2.2.2.2.2.1⟩ ?_
                  simp only [List.map_cons, List.map_nil, List.getElem?_toArray, List.getElem?_cons_zero, List.getElem?_cons_succ]
                  replace l0 := l0.keep K.keep_drew
                  replace K := K.drew
                  generalize World.drew _ = w7 at *
                  repeat (first | (refine Plan.take ?_ (by rfl) ?_ ?_; rotate_left; (· rintro w9 ⟨u0, u1, u2⟩; go_simp; (try rw [if_neg (by omega)]); all_goals (with_reducible rfl)); simp only [Act.put, List.setIfInBounds_toArray, List.set_cons_zero, List.set_cons_succ]) | (refine Plan.pass (by rfl) ?_; simp only [Act.put, List.setIfInBounds_toArray, List.set_cons_zero, List.set_cons_succ]))
                  refine Plan.call (by rfl) 42 _ ?_ (HHJ.out _ K.hb) ?_
                  · go_simp
                  rintro r9 w8 ⟨rfl, rfl⟩
                  refine ⟨_, rfl, ⟨HCS.out _ K.hb, (ev_cells (K.get 0 rfl)).1, (ev_cells (K.get 0 rfl)).2.2.2.2.2.2.1⟩, ?_⟩
                  simp only [Act.put, List.setIfInBounds_toArray, List.set_cons_zero, List.set_cons_succ]
                  repeat (first | (refine Plan.take ?_ (by rfl) ?_ ?_; rotate_left; (· rintro w9 ⟨u0, u1, u2⟩; go_simp; (try rw [if_neg (by omega)]); all_goals (with_reducible rfl)); simp only [Act.put, List.setIfInBounds_toArray, List.set_cons_zero, List.set_cons_succ]) | (refine Plan.pass (by rfl) ?_; simp only [Act.put, List.setIfInBounds_toArray, List.set_cons_zero, List.set_cons_succ]))
                  refine Plan.ends ?_
                  go_wp2_with fail
                  go_ret
                  exact ⟨r_i HX.out.symm, hw2.out.trans (K.hb.mono hw2.out.size)⟩
              · rw [decide_eq_false hin] at HHJ
                have HIN := Lib.hid hin
                clear hin
                cases er
                · skip
                  go_upto_region 14 with (first
                    | (go_at_call 43; ((with_reducible refine (HOPR.out _ K.hb _ _ hR).mono ?_); rintro r9 w5 ⟨rfl, h9⟩; replace l0 := l0.keep (K.keep_on h9); replace K := K.on h9; clear h9; replace l0 := l0.keep (K.keep_al (.cells #[.bool false, .int .i64 eq, .int .i64 es, .int .i64 ek, .int .i64 eb, .string ed, .int .i64 ee, .string ex] 55)); replace K := K.al (.cells #[.bool false, .int .i64 eq, .int .i64 es, .int .i64 ek, .int .i64 eb, .string ed, .int .i64 ee, .string ex] 55))))
                  generalize hw6 : World.alloc w5 _ = w6 at *
                  clear hw6
                  generalize w5.heap.size = G at *
                  refine Plan.start (fun W => W.cell? (x2.add j) = some (.int .i64 es) ∧ W.cell? ⟨G, 0, none⟩ = some (.bool false) ∧ W.cell? ⟨G, 6, none⟩ = some (.int .i64 ee)) [(0, true), (1, true), (2, true), (3, true), (4, true), (5, true), (6, true), (7, true), (8, true), (9, true), (10, false), (11, true), (12, true), (13, true), (14, true), (15, true), (16, true), (17, true), (18, true), (19, true), (20, true), (21, true)] (by kernel_rfl) (by kernel_rfl) (by kernel_rfl) (by kernel_rfl) ⟨HCS.out _ K.drew.hb, (ev_cells (K.drew.get 0 rfl)).1, (ev_cells (K.drew.get 0 rfl)).2.2.2.2.2.2.1⟩ ?_
                  simp only [List.map_cons, List.map_nil, List.getElem?_toArray, List.getElem?_cons_zero, List.getElem?_cons_succ]
                  replace l0 := l0.keep K.keep_drew
                  replace K := K.drew
                  generalize World.drew _ = w7 at *
                  repeat (first | (refine Plan.take ?_ (by rfl) ?_ ?_; rotate_left; (· rintro w9 ⟨u0, u1, u2⟩; go_simp; (try rw [if_neg (by omega)]); all_goals (with_reducible rfl)); simp only [Act.put, List.setIfInBounds_toArray, List.set_cons_zero, List.set_cons_succ]) | (refine Plan.pass (by rfl) ?_; simp only [Act.put, List.setIfInBounds_toArray, List.set_cons_zero, List.set_cons_succ]))
                  refine Plan.call (by rfl) 42 _ ?_ (HHJ.out _ K.hb) ?_
                  · go_simp
                  rintro r9 w8 ⟨rfl, rfl⟩
                  refine ⟨_, rfl, ⟨HCS.out _ K.hb, (ev_cells (K.get 0 rfl)).1, (ev_cells (K.get 0 rfl)).2.2.2.2.2.2.1⟩, ?_⟩
                  simp only [Act.put, List.setIfInBounds_toArray, List.set_cons_zero, List.set_cons_succ]
                  repeat (first | (refine Plan.take ?_ (by rfl) ?_ ?_; rotate_left; (· rintro w9 ⟨u0, u1, u2⟩; go_simp; (try rw [if_neg (by omega)]); all_goals (with_reducible rfl)); simp only [Act.put, List.setIfInBounds_toArray, List.set_cons_zero, List.set_cons_succ]) | (refine Plan.pass (by rfl) ?_; simp only [Act.put, List.setIfInBounds_toArray, List.set_cons_zero, List.set_cons_succ]))
                  refine Plan.ends ?_
                  go_wp2_with fail
                  go_loopw [13] (fun x wr => ∃ k : Nat, x = .int .i64 (k : Int) ∧ k ≤ j ∧ RowKit.Hid (∀ (i : Nat) (t : Int), i < k → o[i]? = some t → beforeB L es t = false) ∧ Env w2 wr [.box G (.cells #[.bool false, .int .i64 eq, .int .i64 es, .int .i64 ek, .int .i64 eb, .string ed, .int .i64 ee, .string ex] 55)] ∧ SList wr (Quiet w2 (fun _ => True) wr [.box G (.cells #[.bool false, .int .i64 eq, .int .i64 es, .int .i64 ek, .int .i64 eb, .string ed, .int .i64 ee, .string ex] 55)]) ai n ci Bi) (fun x _ => j - (intOf x).toNat)
                  case atStart => exact ⟨0, rfl, by omega, Lib.hid (fun i _ hi => absurd hi (Nat.not_lt_zero _)), K, l0⟩
                  case round =>
                    clear K l0
                    obtain ⟨k, rfl, hk, hbf, K, l0⟩ := hrel
                    by_cases hlk : k < j
                    · obtain ⟨x3, t, hx3, ht, ct⟩ := HI.out wr K.hb k (by omega)
                      obtain rfl := Option.some.inj hx3
                      clear hx3
                      have hkI : (k : Int) < (j : Int) := by omega
                      have hkI2 : (k : Int) < (p : Int) := by omega
                      have HCT := Lib.hid (fun W (h : Below w2.heap.size w2 W) => (show W.cell? (x2.add k) = some (.int .i64 t) from by
                        obtain ⟨x', y', e1, e2, e3⟩ := HI.out W h k (by omega)
                        obtain rfl := Option.some.inj e1
                        rw [ht] at e2
                        obtain rfl := Option.some.inj e2
                        exact e3))
                      have HT := Lib.hid ht
                      clear ht
                      have HBW := Lib.hid (fun W (h : Below w2.heap.size w2 W) => refBefore_any _ L b m d es t W (lL.same h))
                      have c2 := HCS.out _ K.hb
                      cases hbq : beforeB L es t
                      · rw [hbq] at HBW
                        have HN := Lib.hid (fun i u (hi : i < k + 1) (hu : o[i]? = some u) => (show beforeB L es u = false from by
                          rcases Nat.lt_or_ge i k with h9 | h9
                          · exact hbf.out i u h9 hu
                          · obtain rfl : i = k := by omega
                            rw [HT.out] at hu; cases hu; exact hbq))
                        clear hbq
                        go_upto_region 19 with fail
                        refine Plan.start (fun W => W.cell? (x2.add j) = some (.int .i64 es) ∧ W.cell? (x2.add k) = some (.int .i64 t)) [(0, true), (1, true), (2, true), (3, true), (4, true), (5, true), (6, true), (7, true), (8, true), (9, false)] (by kernel_rfl) (by kernel_rfl) (by kernel_rfl) (by kernel_rfl) ⟨c2, ct⟩ ?_
                        simp only [List.map_cons, List.map_nil, List.getElem?_toArray, List.getElem?_cons_zero, List.getElem?_cons_succ]
                        replace l0 := l0.keep K.keep_drew
                        replace K := K.drew
                        repeat (first | (refine Plan.take ?_ (by rfl) ?_ ?_; rotate_left; (· rintro w9 ⟨u0, u1⟩; go_simp; (try rw [if_neg (by omega)]); all_goals (with_reducible rfl)); simp only [Act.put, List.setIfInBounds_toArray, List.set_cons_zero, List.set_cons_succ]) | (refine Plan.pass (by rfl) ?_; simp only [Act.put, List.setIfInBounds_toArray, List.set_cons_zero, List.set_cons_succ]))
                        refine Plan.call (by rfl) 44 _ ?_ (HBW.out _ K.hb) ?_
                        · go_simp
                        rintro r9 w8 ⟨rfl, h9⟩
                        replace l0 := l0.keep (K.keep_on h9)
                        replace K := K.on h9
                        clear h9
                        refine ⟨_, rfl, ⟨HCS.out _ K.hb, HCT.out _ K.hb⟩, ?_⟩
                        simp only [Act.put, List.setIfInBounds_toArray, List.set_cons_zero, List.set_cons_succ]
                        refine Plan.ends ?_
                        clear c2 ct
                        go_wp2_with fail
                        go_roundw
                        case rel => exact ⟨k + 1, by go_num, by omega, HN, K, l0⟩
                        case measure => simp [intOf]; omega
                      · rw [hbq] at HBW
                        have HX := Lib.hid (HNO.out (j + 1) (by omega) (by rw [HBN.out, hR]; simp only; rw [if_neg]; rw [step_before (any_some (p := fun t => beforeB L es t) HT.out hlk hbq)]; simp))
                        clear hbq
                        go_upto_region 19 with fail
                        refine Plan.start (fun W => W.cell? (x2.add j) = some (.int .i64 es) ∧ W.cell? (x2.add k) = some (.int .i64 t)) [(0, true), (1, true), (2, true), (3, true), (4, true), (5, true), (6, true), (7, true), (8, true), (9, false)] (by kernel_rfl) (by kernel_rfl) (by kernel_rfl) (by kernel_rfl) ⟨c2, ct⟩ ?_
                        simp only [List.map_cons, List.map_nil, List.getElem?_toArray, List.getElem?_cons_zero, List.getElem?_cons_succ]
                        replace l0 := l0.keep K.keep_drew
                        replace K := K.drew
                        repeat (first | (refine Plan.take ?_ (by rfl) ?_ ?_; rotate_left; (· rintro w9 ⟨u0, u1⟩; go_simp; (try rw [if_neg (by omega)]); all_goals (with_reducible rfl)); simp only [Act.put, List.setIfInBounds_toArray, List.set_cons_zero, List.set_cons_succ]) | (refine Plan.pass (by rfl) ?_; simp only [Act.put, List.setIfInBounds_toArray, List.set_cons_zero, List.set_cons_succ]))
                        refine Plan.call (by rfl) 44 _ ?_ (HBW.out _ K.hb) ?_
                        · go_simp
                        rintro r9 w8 ⟨rfl, h9⟩
                        replace l0 := l0.keep (K.keep_on h9)
                        replace K := K.on h9
                        clear h9
                        refine ⟨_, rfl, ⟨HCS.out _ K.hb, HCT.out _ K.hb⟩, ?_⟩
                        simp only [Act.put, List.setIfInBounds_toArray, List.set_cons_zero, List.set_cons_succ]
                        refine Plan.ends ?_
                        clear c2 ct
                        go_wp2_with fail
                        go_ret
                        exact ⟨r_i HX.out.symm, hw2.out.trans (K.hb.mono hw2.out.size)⟩
                    · obtain rfl : k = j := by omega
                      have hkI : ¬ (k : Int) < (k : Int) := by omega
                      have hany := Lib.hid (any_none (p := fun t => beforeB L es t) (fun i t hi ht => hbf.out i t hi ht))
                      clear hbf hlk hk
                      obtain ⟨b0, b1, b2, b3, b4, b5, b6, b7⟩ := ev_cells (K.get 0 rfl)
                      have HAP := Lib.hid (fun W F a c (h : SList W F a n c Bi) => refApply_any F Bi a n c ek eb ed W h hn)
                      unfold APost at HAP
                      obtain ⟨re, rd⟩ : ∃ re rd, applyR Bi ⟨ek, eb, ed⟩ = ⟨re, rd⟩ := ⟨_, _, rfl⟩
                      obtain ⟨rd, hRR⟩ := rd
                      rw [hRR] at HAP
                      have HRR := Lib.hid hRR
                      have hBl := blk_len HBi.out
                      clear hRR
                      have HNX := Lib.hid (show blkAt B L o (k + 1) = some (applyB Bi ⟨ek, eb, ed⟩) from by rw [HBN.out, hR]; simp only; rw [if_pos (step_go HIN.out (.inl rfl) hany.out (fun h => by cases h))]; rfl)
                      have HLB := Lib.hid (show Bi.length = n from l0.length)
                      go_wp2_with (first
                        | (go_at_call 30; ((with_reducible refine (HAP.out _ _ _ _ l0).mono ?_); rintro r9 w8 ⟨a8, n8, c8, rfl, hx, h9⟩; have l8 := TList.result K h9 hx; clear hx l0; replace K := K.on h9; clear h9; replace l8 := l8.keep (K.keep_al (.cells #[.int .i64 re, .string rd] 53)); replace K := K.al (.cells #[.int .i64 re, .string rd] 53); clear b0 b1 b2 b3 b4 b5 b6 b7; obtain ⟨b0, b1, b2, b3, b4, b5, b6, b7⟩ := ev_cells (K.get 1 rfl); obtain ⟨r0, r1⟩ := hs_cells2 (K.get 0 rfl))))
                      have hn8 : n8 = n := l8.length.symm.trans ((apply_len _ _).trans HLB.out)
                      subst hn8
                      go_roundw
                      case rel => exact ⟨k + 1, _, a8, c8, by go_num, rfl, by omega, HNX, K.sub [] rfl (by simp) (by simp), l8.keep (K.keep_sub (by simp))⟩
                      case measure => simp [intOf]; omega
                · by_cases he0 : ee = 0
                  · subst he0
                    go_upto_region 14 with (first
                      | (go_at_call 43; ((with_reducible refine (HOPR.out _ K.hb _ _ hR).mono ?_); rintro r9 w5 ⟨rfl, h9⟩; replace l0 := l0.keep (K.keep_on h9); replace K := K.on h9; clear h9; replace l0 := l0.keep (K.keep_al (.cells #[.bool true, .int .i64 eq, .int .i64 es, .int .i64 ek, .int .i64 eb, .string ed, .int .i64 0, .string ex] 55)); replace K := K.al (.cells #[.bool true, .int .i64 eq, .int .i64 es, .int .i64 ek, .int .i64 eb, .string ed, .int .i64 0, .string ex] 55))))
                    generalize hw6 : World.alloc w5 _ = w6 at *
                    clear hw6
                    generalize w5.heap.size = G at *
                    refine Plan.start (fun W => W.cell? (x2.add j) = some (.int .i64 es) ∧ W.cell? ⟨G, 0, none⟩ = some (.bool true) ∧ W.cell? ⟨G, 6, none⟩ = some (.int .i64 0)) [(0, true), (1, true), (2, true), (3, true), (4, true), (5, true), (6, true), (7, true), (8, true), (9, true), (10, false), (11, true), (12, true), (13, true), (14, true), (15, true), (16, true), (17, true), (18, true), (19, true), (20, true), (21, true)] (by kernel_rfl) (by kernel_rfl) (by kernel_rfl) (by kernel_rfl) ⟨HCS.out _ K.drew.hb, (ev_cells (K.drew.get 0 rfl)).1, (ev_cells (K.drew.get 0 rfl)).2.2.2.2.2.2.1⟩ ?_
                    simp only [List.map_cons, List.map_nil, List.getElem?_toArray, List.getElem?_cons_zero, List.getElem?_cons_succ]
                    replace l0 := l0.keep K.keep_drew
                    replace K := K.drew
                    generalize World.drew _ = w7 at *
                    repeat (first | (refine Plan.take ?_ (by rfl) ?_ ?_; rotate_left; (· rintro w9 ⟨u0, u1, u2⟩; go_simp; (try rw [if_neg (by omega)]); all_goals (with_reducible rfl)); simp only [Act.put, List.setIfInBounds_toArray, List.set_cons_zero, List.set_cons_succ]) | (refine Plan.pass (by rfl) ?_; simp only [Act.put, List.setIfInBounds_toArray, List.set_cons_zero, List.set_cons_succ]))
                    refine Plan.call (by rfl) 42 _ ?_ (HHJ.out _ K.hb) ?_
                    · go_simp
                    rintro r9 w8 ⟨rfl, rfl⟩
                    refine ⟨_, rfl, ⟨HCS.out _ K.hb, (ev_cells (K.get 0 rfl)).1, (ev_cells (K.get 0 rfl)).2.2.2.2.2.2.1⟩, ?_⟩
                    simp only [Act.put, List.setIfInBounds_toArray, List.set_cons_zero, List.set_cons_succ]
                    repeat (first | (refine Plan.take ?_ (by rfl) ?_ ?_; rotate_left; (· rintro w9 ⟨u0, u1, u2⟩; go_simp; (try rw [if_neg (by omega)]); all_goals (with_reducible rfl)); simp only [Act.put, List.setIfInBounds_toArray, List.set_cons_zero, List.set_cons_succ]) | (refine Plan.pass (by rfl) ?_; simp only [Act.put, List.setIfInBounds_toArray, List.set_cons_zero, List.set_cons_succ]))
                    refine Plan.ends ?_
                    go_wp2_with fail
                    go_loopw [13] (fun x wr => ∃ k : Nat, x = .int .i64 (k : Int) ∧ k ≤ j ∧ RowKit.Hid (∀ (i : Nat) (t : Int), i < k → o[i]? = some t → beforeB L es t = false) ∧ Env w2 wr [.box G (.cells #[.bool true, .int .i64 eq, .int .i64 es, .int .i64 ek, .int .i64 eb, .string ed, .int .i64 0, .string ex] 55)] ∧ SList wr (Quiet w2 (fun _ => True) wr [.box G (.cells #[.bool true, .int .i64 eq, .int .i64 es, .int .i64 ek, .int .i64 eb, .string ed, .int .i64 0, .string ex] 55)]) ai n ci Bi) (fun x _ => j - (intOf x).toNat)
                    case atStart => exact ⟨0, rfl, by omega, Lib.hid (fun i _ hi => absurd hi (Nat.not_lt_zero _)), K, l0⟩
                    case round =>
                      clear K l0
                      obtain ⟨k, rfl, hk, hbf, K, l0⟩ := hrel
                      by_cases hlk : k < j
                      · obtain ⟨x3, t, hx3, ht, ct⟩ := HI.out wr K.hb k (by omega)
                        obtain rfl := Option.some.inj hx3
                        clear hx3
                        have hkI : (k : Int) < (j : Int) := by omega
                        have hkI2 : (k : Int) < (p : Int) := by omega
                        have HCT := Lib.hid (fun W (h : Below w2.heap.size w2 W) => (show W.cell? (x2.add k) = some (.int .i64 t) from by
                          obtain ⟨x', y', e1, e2, e3⟩ := HI.out W h k (by omega)
                          obtain rfl := Option.some.inj e1
                          rw [ht] at e2
                          obtain rfl := Option.some.inj e2
                          exact e3))
                        have HT := Lib.hid ht
                        clear ht
                        have HBW := Lib.hid (fun W (h : Below w2.heap.size w2 W) => refBefore_any _ L b m d es t W (lL.same h))
                        have c2 := HCS.out _ K.hb
                        cases hbq : beforeB L es t
                        · rw [hbq] at HBW
                          have HN := Lib.hid (fun i u (hi : i < k + 1) (hu : o[i]? = some u) => (show beforeB L es u = false from by
                            rcases Nat.lt_or_ge i k with h9 | h9
                            · exact hbf.out i u h9 hu
                            · obtain rfl : i = k := by omega
                              rw [HT.out] at hu; cases hu; exact hbq))
                          clear hbq
                          go_upto_region 19 with fail
                          refine Plan.start (fun W => W.cell? (x2.add j) = some (.int .i64 es) ∧ W.cell? (x2.add k) = some (.int .i64 t)) [(0, true), (1, true), (2, true), (3, true), (4, true), (5, true), (6, true), (7, true), (8, true), (9, false)] (by kernel_rfl) (by kernel_rfl) (by kernel_rfl) (by kernel_rfl) ⟨c2, ct⟩ ?_
                          simp only [List.map_cons, List.map_nil, List.getElem?_toArray, List.getElem?_cons_zero, List.getElem?_cons_succ]
                          replace l0 := l0.keep K.keep_drew
                          replace K := K.drew
                          repeat (first | (refine Plan.take ?_ (by rfl) ?_ ?_; rotate_left; (· rintro w9 ⟨u0, u1⟩; go_simp; (try rw [if_neg (by omega)]); all_goals (with_reducible rfl)); simp only [Act.put, List.setIfInBounds_toArray, List.set_cons_zero, List.set_cons_succ]) | (refine Plan.pass (by rfl) ?_; simp only [Act.put, List.setIfInBounds_toArray, List.set_cons_zero, List.set_cons_succ]))
                          refine Plan.call (by rfl) 44 _ ?_ (HBW.out _ K.hb) ?_
                          · go_simp
                          rintro r9 w8 ⟨rfl, h9⟩
                          replace l0 := l0.keep (K.keep_on h9)
                          replace K := K.on h9
                          clear h9
                          refine ⟨_, rfl, ⟨HCS.out _ K.hb, HCT.out _ K.hb⟩, ?_⟩
                          simp only [Act.put, List.setIfInBounds_toArray, List.set_cons_zero, List.set_cons_succ]
                          refine Plan.ends ?_
                          clear c2 ct
                          go_wp2_with fail
                          go_roundw
                          case rel => exact ⟨k + 1, by go_num, by omega, HN, K, l0⟩
                          case measure => simp [intOf]; omega
                        · rw [hbq] at HBW
                          have HX := Lib.hid (HNO.out (j + 1) (by omega) (by rw [HBN.out, hR]; simp only; rw [if_neg]; rw [step_before (any_some (p := fun t => beforeB L es t) HT.out hlk hbq)]; simp))
                          clear hbq
                          go_upto_region 19 with fail
                          refine Plan.start (fun W => W.cell? (x2.add j) = some (.int .i64 es) ∧ W.cell? (x2.add k) = some (.int .i64 t)) [(0, true), (1, true), (2, true), (3, true), (4, true), (5, true), (6, true), (7, true), (8, true), (9, false)] (by kernel_rfl) (by kernel_rfl) (by kernel_rfl) (by kernel_rfl) ⟨c2, ct⟩ ?_
                          simp only [List.map_cons, List.map_nil, List.getElem?_toArray, List.getElem?_cons_zero, List.getElem?_cons_succ]
                          replace l0 := l0.keep K.keep_drew
                          replace K := K.drew
                          repeat (first | (refine Plan.take ?_ (by rfl) ?_ ?_; rotate_left; (· rintro w9 ⟨u0, u1⟩; go_simp; (try rw [if_neg (by omega)]); all_goals (with_reducible rfl)); simp only [Act.put, List.setIfInBounds_toArray, List.set_cons_zero, List.set_cons_succ]) | (refine Plan.pass (by rfl) ?_; simp only [Act.put, List.setIfInBounds_toArray, List.set_cons_zero, List.set_cons_succ]))
                          refine Plan.call (by rfl) 44 _ ?_ (HBW.out _ K.hb) ?_
                          · go_simp
                          rintro r9 w8 ⟨rfl, h9⟩
                          replace l0 := l0.keep (K.keep_on h9)
                          replace K := K.on h9
                          clear h9
                          refine ⟨_, rfl, ⟨HCS.out _ K.hb, HCT.out _ K.hb⟩, ?_⟩
                          simp only [Act.put, List.setIfInBounds_toArray, List.set_cons_zero, List.set_cons_succ]
                          refine Plan.ends ?_
                          clear c2 ct
                          go_wp2_with fail
                          go_ret
                          exact ⟨r_i HX.out.symm, hw2.out.trans (K.hb.mono hw2.out.size)⟩
                      · obtain rfl : k = j := by omega
                        have hkI : ¬ (k : Int) < (k : Int) := by omega
                        have hany := Lib.hid (any_none (p := fun t => beforeB L es t) (fun i t hi ht => hbf.out i t hi ht))
                        clear hbf hlk hk
                        obtain ⟨b0, b1, b2, b3, b4, b5, b6, b7⟩ := ev_cells (K.get 0 rfl)
                        have HAP := Lib.hid (fun W F a c (h : SList W F a n c Bi) => refApply_any F Bi a n c ek eb ed W h hn)
                        unfold APost at HAP
                        obtain ⟨re, rd⟩ : ∃ re rd, applyR Bi ⟨ek, eb, ed⟩ = ⟨re, rd⟩ := ⟨_, _, rfl⟩
                        obtain ⟨rd, hRR⟩ := rd
                        rw [hRR] at HAP
                        have HRR := Lib.hid hRR
                        have hBl := blk_len HBi.out
                        clear hRR
                        have HLB := Lib.hid (show Bi.length = n from l0.length)
                        by_cases hs1 : re = 0
                        · subst hs1
                          by_cases hs2 : rd = ex
                          · subst hs2
                            have HNX := Lib.hid (show blkAt B L o (k + 1) = some (applyB Bi ⟨ek, eb, ed⟩) from by rw [HBN.out, hR]; simp only; rw [if_pos (step_go HIN.out (.inr rfl) hany.out (fun _ => ⟨congrArg Res.err HRR.out, congrArg Res.data HRR.out⟩))]; rfl)
                            go_wp2_with (first
                              | (go_at_call 30; ((with_reducible refine (HAP.out _ _ _ _ l0).mono ?_); rintro r9 w8 ⟨a8, n8, c8, rfl, hx, h9⟩; have l8 := TList.result K h9 hx; clear hx l0; replace K := K.on h9; clear h9; replace l8 := l8.keep (K.keep_al (.cells #[.int .i64 0, .string rd] 53)); replace K := K.al (.cells #[.int .i64 0, .string rd] 53); clear b0 b1 b2 b3 b4 b5 b6 b7; obtain ⟨b0, b1, b2, b3, b4, b5, b6, b7⟩ := ev_cells (K.get 1 rfl); obtain ⟨r0, r1⟩ := hs_cells2 (K.get 0 rfl))))
                            have hn8 : n8 = n := l8.length.symm.trans ((apply_len _ _).trans HLB.out)
                            subst hn8
                            go_roundw
                            case rel => exact ⟨k + 1, _, a8, c8, by go_num, rfl, by omega, HNX, K.sub [] rfl (by simp) (by simp), l8.keep (K.keep_sub (by simp))⟩
                            case measure => simp [intOf]; omega
                          · have HX := Lib.hid (HNO.out (k + 1) (by omega) (by rw [HBN.out, hR]; simp only; rw [if_neg]; rw [step_res rfl (fun h => hs2 ((congrArg Res.data HRR.out).symm.trans h.2))]; simp))
                            have d8 := ba_ne hs2
                            have d9 := bal_ne hs2
                            have d7 : decide (rd = ex) = false := decide_eq_false hs2
                            go_wp2_with (first
                              | (go_at_call 30; ((with_reducible refine (HAP.out _ _ _ _ l0).mono ?_); rintro r9 w8 ⟨a8, n8, c8, rfl, hx, h9⟩; have l8 := TList.result K h9 hx; clear hx l0; replace K := K.on h9; clear h9; replace l8 := l8.keep (K.keep_al (.cells #[.int .i64 0, .string rd] 53)); replace K := K.al (.cells #[.int .i64 0, .string rd] 53); clear b0 b1 b2 b3 b4 b5 b6 b7; obtain ⟨b0, b1, b2, b3, b4, b5, b6, b7⟩ := ev_cells (K.get 1 rfl); obtain ⟨r0, r1⟩ := hs_cells2 (K.get 0 rfl))))
                            go_ret
                            exact ⟨r_i HX.out.symm, hw2.out.trans (K.hb.mono hw2.out.size)⟩
                        · have HX := Lib.hid (HNO.out (k + 1) (by omega) (by rw [HBN.out, hR]; simp only; rw [if_neg]; rw [step_res rfl (fun h => hs1 ((congrArg Res.err HRR.out).symm.trans h.1))]; simp))
                          have d8 : (re == 0) = false := by simpa using hs1
                          go_wp2_with (first
                            | (go_at_call 30; ((with_reducible refine (HAP.out _ _ _ _ l0).mono ?_); rintro r9 w8 ⟨a8, n8, c8, rfl, hx, h9⟩; have l8 := TList.result K h9 hx; clear hx l0; replace K := K.on h9; clear h9; replace l8 := l8.keep (K.keep_al (.cells #[.int .i64 re, .string rd] 53)); replace K := K.al (.cells #[.int .i64 re, .string rd] 53); clear b0 b1 b2 b3 b4 b5 b6 b7; obtain ⟨b0, b1, b2, b3, b4, b5, b6, b7⟩ := ev_cells (K.get 1 rfl); obtain ⟨r0, r1⟩ := hs_cells2 (K.get 0 rfl))))
                          go_ret
                          exact ⟨r_i HX.out.symm, hw2.out.trans (K.hb.mono hw2.out.size)⟩
                  · have q1 : (ee == 0) = false := by simpa using he0
                    have q2 : (ee != 0) = true := by simpa using he0
                    have HX := Lib.hid (HNO.out (j + 1) (by omega) (by rw [HBN.out, hR]; simp only; rw [if_neg]; simp [LinMath.stepB, he0]))
                    clear he0
                    go_upto_region 14 with (first
                      | (go_at_call 43; ((with_reducible refine (HOPR.out _ K.hb _ _ hR).mono ?_); rintro r9 w5 ⟨rfl, h9⟩; replace l0 := l0.keep (K.keep_on h9); replace K := K.on h9; clear h9; replace l0 := l0.keep (K.keep_al (.cells #[.bool true, .int .i64 eq, .int .i64 es, .int .i64 ek, .int .i64 eb, .string ed, .int .i64 ee, .string ex] 55)); replace K := K.al (.cells #[.bool true, .int .i64 eq, .int .i64 es, .int .i64 ek, .int .i64 eb, .string ed, .int .i64 ee, .string ex] 55))))
                    generalize hw6 : World.alloc w5 _ = w6 at *
                    clear hw6
                    generalize w5.heap.size = G at *
                    refine Plan.start (fun W => W.cell? (x2.add j) = some (.int .i64 es) ∧ W.cell? ⟨G, 0, none⟩ = some (.bool true) ∧ W.cell? ⟨G, 6, none⟩ = some (.int .i64 ee)) [(0, true), (1, true), (2, true), (3, true), (4, true), (5, true), (6, true), (7, true), (8, true), (9, true), (10, false), (11, true), (12, true), (13, true), (14, true), (15, true), (16, true), (17, true), (18, true), (19, true), (20, true), (21, true)] (by kernel_rfl) (by kernel_rfl) (by kernel_rfl) (by kernel_rfl) ⟨HCS.out _ K.drew.hb, (ev_cells (K.drew.get 0 rfl)).1, (ev_cells (K.drew.get 0 rfl)).2.2.2.2.2.2.1⟩ ?_
                    simp only [List.map_cons, List.map_nil, List.getElem?_toArray, List.getElem?_cons_zero, List.getElem?_cons_succ]
                    replace l0 := l0.keep K.keep_drew
                    replace K := K.drew
                    generalize World.drew _ = w7 at *
                    repeat (first | (refine Plan.take ?_ (by rfl) ?_ ?_; rotate_left; (· rintro w9 ⟨u0, u1, u2⟩; go_simp; (try rw [if_neg (by omega)]); all_goals (with_reducible rfl)); simp only [Act.put, List.setIfInBounds_toArray, List.set_cons_zero, List.set_cons_succ]) | (refine Plan.pass (by rfl) ?_; simp only [Act.put, List.setIfInBounds_toArray, List.set_cons_zero, List.set_cons_succ]))
                    refine Plan.call (by rfl) 42 _ ?_ (HHJ.out _ K.hb) ?_
                    · go_simp
                    rintro r9 w8 ⟨rfl, rfl⟩
                    refine ⟨_, rfl, ⟨HCS.out _ K.hb, (ev_cells (K.get 0 rfl)).1, (ev_cells (K.get 0 rfl)).2.2.2.2.2.2.1⟩, ?_⟩
                    simp only [Act.put, List.setIfInBounds_toArray, List.set_cons_zero, List.set_cons_succ]
                    repeat (first | (refine Plan.take ?_ (by rfl) ?_ ?_; rotate_left; (· rintro w9 ⟨u0, u1, u2⟩; go_simp; (try rw [if_neg (by omega)]); all_goals (with_reducible rfl)); simp only [Act.put, List.setIfInBounds_toArray, List.set_cons_zero, List.set_cons_succ]) | (refine Plan.pass (by rfl) ?_; simp only [Act.put, List.setIfInBounds_toArray, List.set_cons_zero, List.set_cons_succ]))
                    refine Plan.ends ?_
                    go_wp2_with fail
                    go_ret
                    exact ⟨r_i HX.out.symm, hw2.out.trans (K.hb.mono hw2.out.size)⟩
          · obtain rfl : j = p := by omega
            have hjI : ¬ (j : Int) < (j : Int) := by omega
            have HX := Lib.hid (HYES.out _ HMU.out HBi.out)
            go_wp2_with fail
            go_ret
            exact ⟨r_i HX.out.symm, hw2.out.trans (K.hb.mono hw2.out.size)⟩
  · have d1 : (sizesE B L == 0) = false := by simpa using h0
    have d2 : (sizesE B L != 0) = true := by simpa using h0
    have e0 : linE B L o = sizesE B L := by unfold linE; rw [if_pos h0]
    go_wp2_with fail
    go_ret
    exact ⟨r_i e0.symm, hb⟩
end Go.Proofs.YtnmhnjjehglcfaaGreat.Ents

/- What the laws' maker of histories leaves; what is known of such histories. -/
namespace Go.Proofs.YtnmhnjjehglcfaaGreat.LinMath
open HisMath ModMath CmdMath
def MadeH (n m : Nat) (wrong : Bool) (X : List Ev) : Prop := ∃ P A B s, LMade n m wrong X P A B s
section
variable {n m : Nat} {wrong : Bool} {X : List Ev}
theorem newB_len {n : Nat} (h1 : 1 ≤ n) (h3 : n ≤ 3) : (newB (n : Int)).length = n := by rw [newB_is h1 (by omega), List.length_replicate]
theorem MadeH.right (h : MadeH n m wrong X) : Right X := by obtain ⟨P, A, B, s, h⟩ := h; exact h.made.right
theorem MadeH.len (h : MadeH n m wrong X) : 2 * (opsE X X.length).length ≤ m + 5 ∧ X.length ≤ m + 5 := by obtain ⟨P, A, B, s, h⟩ := h; exact h.ops
theorem made_sizes (h1 : 1 ≤ n) (h3 : n ≤ 3) {Y : List Ev} (hR : Right Y) (hl : Y.length ≤ 400) : sizesE (newB (n : Int)) Y = 0 := by
  have hlen := newB_len h1 h3
  refine sizes_good (check_right hR (by omega) (by omega) hl) fun i s _ hs => ?_
  rw [newB_is h1 (by omega), List.getElem?_replicate] at hs
  split at hs
  · obtain rfl := Option.some.inj hs
    rfl
  · cases hs
theorem small_of {B : List ByteArray} {Y : List Ev} (hR : Right Y) (h : (opsE Y Y.length).length ≤ 20) : smallP B Y := fun i _ => by
  unfold aloneE
  rw [ops_blk 0 (right_rest hR _), List.length_map]
  unfold restE
  rw [ops_part hR (rest_byCmd _)]
  exact Nat.le_trans (List.length_filter_le _ _) h
theorem MadeH.errs (h : MadeH n m wrong X) (h1 : 1 ≤ n) (h3 : n ≤ 3) : ∀ y ∈ opsE X X.length, mustP y = true → errM (newB (n : Int)) (cmdOf y) = 0 := by
  obtain ⟨P, A, B, s, h⟩ := h
  exact fun y hy _ => h.errs (newB_len h1 h3) y hy
theorem can_made {B : List ByteArray} {Y : List Ev} (hs : sizesE B Y = 0) (h : (opsE Y Y.length).length ≤ 20) : CanP B Y ↔ ∃ xs, LinX B Y xs := by
  have hR := (sizes_parts hs).1
  rw [← orders_iff hR]
  unfold CanP
  constructor
  · rintro ⟨_, _, o, ho⟩
    exact ⟨o, (lin_okE hs).1 ho⟩
  · rintro ⟨o, ho⟩
    exact ⟨hs, small_of hR h, o, (lin_okE hs).2 ho⟩
/-- one block alone -/
theorem MadeH.one (h : MadeH 1 m wrong X) : restE X 0 = X := by
  obtain ⟨P, A, B, s, h⟩ := h
  unfold restE
  rw [List.filter_eq_self]
  intro x hx
  obtain ⟨h1, h2⟩ := h.cmds x hx
  obtain ⟨h3, _, h4⟩ := check_zero h1
  have h5 := h4 h2
  have h6 : x.block = 0 := by omega
  have h7 : x.kind = 1 ∨ x.kind = 2 ∨ x.kind = 3 := by omega
  unfold restB
  rw [h6]
  rcases h7 with h7 | h7 | h7 <;> simp [h7]
theorem MadeH.single (h : MadeH 1 m wrong X) (hm : m ≤ 30) : sizesE [zeroC] X = 0 ∧ singleB zeroC X = true ∧ (CanP [zeroC] X ↔ ∃ o, linE [zeroC] X o = 0) := by
  have hR := h.right
  have hl := h.len
  have hs : sizesE [zeroC] X = 0 := made_sizes (n := 1) (by decide) (by decide) hR (by omega)
  refine ⟨hs, ?_, ?_⟩
  · unfold singleB
    simp only [hs, h.one, decide_true, Bool.true_and, decide_eq_true_eq]
    omega
  · unfold CanP
    exact ⟨fun h => h.2.2, fun h => ⟨hs, small_of hR (by omega), h⟩⟩
/-- the parts, the beginnings -/
theorem MadeH.parts (h : MadeH n m wrong X) (h1 : 1 ≤ n) (h3 : n ≤ 3) (hm : m ≤ 30) : (CanP (newB (n : Int)) X ↔ ∀ i : Nat, i < n → CanP (newB (n : Int)) (restE X (i : Int))) := by
  have hR := h.right
  have hl := h.len
  have hs := made_sizes h1 h3 hR (by omega)
  rw [can_made hs (by omega), lin_parts hR (h.errs h1 h3), newB_len h1 h3]
  refine forall_congr' fun i => forall_congr' fun _ => ?_
  have hRr := right_rest hR (i : Int)
  have hlr : (restE X (i : Int)).length ≤ X.length := List.length_filter_le _ _
  have hor : (opsE (restE X (i : Int)) (restE X (i : Int)).length).length ≤ (opsE X X.length).length := by
    unfold restE
    rw [ops_part hR (rest_byCmd _)]
    exact List.length_filter_le _ _
  rw [can_made (made_sizes h1 h3 hRr (by omega)) (by omega)]
theorem ops_take {L : List Ev} (hR : Right L) (k : Nat) : (opsE (L.take k) (L.take k).length).length ≤ (opsE L L.length).length := by
  rw [ops_right (right_take hR k) _ (Nat.le_refl _), ops_right hR _ (Nat.le_refl _), List.length_map, List.length_map, List.take_length, List.take_length]
  exact ((List.take_sublist k L).filter _).length_le
theorem MadeH.front (h : MadeH n m wrong X) (h1 : 1 ≤ n) (h3 : n ≤ 3) (hm : m ≤ 30) (k : Nat) (hc : CanP (newB (n : Int)) X) : CanP (newB (n : Int)) (X.take k) := by
  have hR := h.right
  have hl := h.len
  rw [can_made (made_sizes h1 h3 hR (by omega)) (by omega)] at hc
  obtain ⟨xs, hx⟩ := hc
  have ho := ops_take hR k
  have hlt : (X.take k).length ≤ X.length := by rw [List.length_take]; omega
  rw [can_made (made_sizes h1 h3 (right_take hR k) (by omega)) (by omega)]
  exact lin_front hR hx k
theorem MadeH.good (h : MadeH n m false X) (h1 : 1 ≤ n) (h3 : n ≤ 3) (hm : m ≤ 30) : CanP (newB (n : Int)) X := by
  have hR := h.right
  have hl := h.len
  rw [can_made (made_sizes h1 h3 hR (by omega)) (by omega)]
  obtain ⟨P, A, B, s, h⟩ := h
  exact h.lin rfl
end
end Go.Proofs.YtnmhnjjehglcfaaGreat.LinMath
namespace Go.Proofs.YtnmhnjjehglcfaaGreat.Ents
open Go.RowKit Plan HisMath LinMath Rws Env LayMath
/-- what the maker of histories leaves -/
def LMadePost (n m : Nat) (wrong : Bool) (w : World) (r : Ending) (w' : World) : Prop :=
  ∃ (a : Option Addr) (k c : Nat) (X : List Ev), r = .returned (.slice a k c) ∧ VList w' (fun b => w.heap.size ≤ b) a k c X ∧ Below w.heap.size w w' ∧ MadeH n m wrong X
structure EventsOk : Prop where
  made : ∀ (N m0 : Nat) (wrong : Bool) (a : Option Addr) (n c : Nat) (Z : List Int) (w : World), IsRow .i64 w a n c Z → n ≤ 300 → 1 ≤ N → N ≤ 3 → m0 ≤ 12 →
    Calls Tryz.prog 15 #[.slice a n c, .int .i64 (N : Int), .int .i64 (m0 : Int), .bool wrong] w (LMadePost N (2 * m0) wrong w)
end Go.Proofs.YtnmhnjjehglcfaaGreat.Ents

/- The two histories of the laws' sanity check of layer 19: one has one linearization, the other none. Plain mathematics. -/
namespace Go.Proofs.YtnmhnjjehglcfaaGreat.LinMath
open HisMath ModMath CmdMath
def awW (r : Bool) (v : ByteArray) : Ev := ⟨r, 0, 1, 2, 0, v, 0, ⟨#[]⟩⟩
def awR (r : Bool) (n : Int) (x : ByteArray) : Ev := ⟨r, 0, n, 1, 0, ⟨#[]⟩, 0, x⟩
def awH (v x y : ByteArray) : List Ev := [awW false v, awR false 2 ⟨#[]⟩, awR true 2 x, awR false 3 ⟨#[]⟩, awR true 3 y, awW true v]
def awO (v x y : ByteArray) : List Ev := [awW true v, awR true 2 x, awR true 3 y]
theorem aw_hist {v x y : ByteArray} (_ : v.size = 16) (hx : x.size = 16) (hy : y.size = 16) : Right (awH v x y) := by
  have g1 : Right ([] ++ [awW false v]) := .inv .nil ⟨rfl, (show (0 : Int) ≤ 0 by decide), (show (0 : Int) < 4 by decide), (show (0 : Int) ≤ 1 by decide), by simp, rfl, rfl⟩
  have g2 : Right (([] ++ [awW false v]) ++ [awR false 2 ⟨#[]⟩]) := .inv g1 ⟨rfl, (show (0 : Int) ≤ 0 by decide), (show (0 : Int) < 4 by decide), (show (0 : Int) ≤ 2 by decide), by simp [awW, awR], rfl, rfl⟩
  have g3 : Right ((([] ++ [awW false v]) ++ [awR false 2 ⟨#[]⟩]) ++ [awR true 2 x]) := .ret g2 ⟨rfl, (show (0 : Int) ≤ 0 by decide), (show (0 : Int) < 4 by decide), (show (0 : Int) ≤ 2 by decide), ⟨awR false 2 ⟨#[]⟩, by simp, rfl, rfl, rfl, rfl, rfl, rfl⟩, by simp [awW, awR], by simp [fitsB, awR, hx]⟩
  have g4 : Right (((([] ++ [awW false v]) ++ [awR false 2 ⟨#[]⟩]) ++ [awR true 2 x]) ++ [awR false 3 ⟨#[]⟩]) := .inv g3 ⟨rfl, (show (0 : Int) ≤ 0 by decide), (show (0 : Int) < 4 by decide), (show (0 : Int) ≤ 3 by decide), by simp [awW, awR], rfl, rfl⟩
  have g5 : Right ((((([] ++ [awW false v]) ++ [awR false 2 ⟨#[]⟩]) ++ [awR true 2 x]) ++ [awR false 3 ⟨#[]⟩]) ++ [awR true 3 y]) := .ret g4 ⟨rfl, (show (0 : Int) ≤ 0 by decide), (show (0 : Int) < 4 by decide), (show (0 : Int) ≤ 3 by decide), ⟨awR false 3 ⟨#[]⟩, by simp, rfl, rfl, rfl, rfl, rfl, rfl⟩, by simp [awW, awR], by simp [fitsB, awR, hy]⟩
  exact .ret g5 ⟨rfl, (show (0 : Int) ≤ 0 by decide), (show (0 : Int) < 4 by decide), (show (0 : Int) ≤ 1 by decide), ⟨awW false v, by simp, rfl, rfl, rfl, rfl, rfl, rfl⟩, by simp [awW, awR], by simp [fitsB, awW]; rfl⟩
theorem aw_opsE {v x y : ByteArray} (h : Right (awH v x y)) : opsE (awH v x y) (awH v x y).length = awO v x y := by
  rw [ops_right h _ (Nat.le_refl _), List.take_length]
  rfl
theorem aw_sizes {v x y z : ByteArray} (hv : v.size = 16) (hx : x.size = 16) (hy : y.size = 16) (hz : z.size = 16) : sizesE [z] (awH v x y) = 0 := by
  refine sizes_good (check_right (aw_hist hv hx hy) (by simp) (by simp) (by simp [awH])) fun i s hi hs => ?_
  obtain rfl : i = 0 := by simpa using hi
  obtain rfl : z = s := by simpa using hs
  exact hz
theorem aw_single {v x y z : ByteArray} (hv : v.size = 16) (hx : x.size = 16) (hy : y.size = 16) (hz : z.size = 16) : singleB z (awH v x y) = true := by
  unfold singleB
  rw [aw_sizes hv hx hy hz, aw_opsE (aw_hist hv hx hy)]
  simp [restE, restB, awH, awW, awR, awO]
theorem next_write {v s : ByteArray} (hv : v.size = 16) : nextV (awW true v) s = some v := by
  have hE : errM [s] (cmdOf (awW true v)) = 0 := by simp [errM, cmdOf, awW, checkC, hv]
  obtain ⟨h1, h2⟩ := apply_write (B := [s]) hE rfl
  rw [next_is, h1, h2]
  exact ⟨rfl, fun _ => ⟨rfl, rfl⟩⟩
theorem next_read {n : Int} {x s : ByteArray} {u : ByteArray} : nextV (awR true n x) s = some u ↔ s = x ∧ u = s := by
  have hE : errM [s] (cmdOf (awR true n x)) = 0 := by simp [errM, cmdOf, awR, checkC]; rfl
  obtain ⟨h1, h2⟩ := apply_read (B := [s]) (s := s) hE rfl rfl
  rw [next_is, h1, h2]
  constructor
  · rintro ⟨h3, h4⟩
    exact ⟨(h4 rfl).2, by simpa using h3.symm⟩
  · rintro ⟨rfl, rfl⟩
    exact ⟨rfl, fun _ => ⟨rfl, rfl⟩⟩
theorem awO_at {v x y : ByteArray} {i : Nat} {e : Ev} (h : (awO v x y)[i]? = some e) : (i = 0 ∧ e = awW true v) ∨ (i = 1 ∧ e = awR true 2 x) ∨ (i = 2 ∧ e = awR true 3 y) := by
  match i with
  | 0 => exact .inl ⟨rfl, (Option.some.inj h).symm⟩
  | 1 => exact .inr (.inl ⟨rfl, (Option.some.inj h).symm⟩)
  | 2 => exact .inr (.inr ⟨rfl, (Option.some.inj h).symm⟩)
  | i + 3 => simp [awO] at h
theorem aw_before {v x y : ByteArray} : beforeB (awH v x y) 2 3 = true := rfl
theorem aw_goal {v x y : ByteArray} {D : Nat} (h : goalP (awO v x y) D) : D.testBit 0 = true ∧ D.testBit 1 = true ∧ D.testBit 2 = true :=
  ⟨h 0 (awW true v) rfl rfl, h 1 (awR true 2 x) rfl rfl, h 2 (awR true 3 y) rfl rfl⟩
/-- all ways of the search -/
theorem aw_path {v x y z : ByteArray} {o : List Int} {D : Nat} {u : ByteArray} (hv : v.size = 16) (h : Path (awH v x y) (awO v x y) 0 z o D u) (hg : goalP (awO v x y) D) :
    (o = [1, 2, 3] ∧ x = v ∧ y = v ∧ u = v) ∨ (o = [2, 1, 3] ∧ x = z ∧ y = v ∧ u = v) ∨ (o = [2, 3, 1] ∧ x = z ∧ y = z ∧ u = v) := by
  obtain ⟨g0, g1, g2⟩ := aw_goal hg
  have hb : ∀ {D : Nat}, canP (awH v x y) (awO v x y) D 2 (awR true 3 y) → D.testBit 1 = true := fun hc => hc.2.2 1 (awR true 2 x) rfl rfl aw_before
  cases h with
  | nil => exact absurd g0 (by decide)
  | @cons _ _ i e s1 l1 _ _ hx hc hn h =>
    rcases awO_at hx with ⟨rfl, rfl⟩ | ⟨rfl, rfl⟩ | ⟨rfl, rfl⟩
    · rw [next_write hv] at hn
      obtain rfl := Option.some.inj hn
      cases h with
      | nil => exact absurd g1 (by decide)
      | @cons _ _ i e s2 l2 _ _ hx hc hn h =>
        rcases awO_at hx with ⟨rfl, rfl⟩ | ⟨rfl, rfl⟩ | ⟨rfl, rfl⟩
        · exact absurd hc.1 (by decide)
        · obtain ⟨rfl, rfl⟩ := next_read.1 hn
          cases h with
          | nil => exact absurd g2 (by decide)
          | @cons _ _ i e s3 l3 _ _ hx hc hn h =>
            rcases awO_at hx with ⟨rfl, rfl⟩ | ⟨rfl, rfl⟩ | ⟨rfl, rfl⟩
            · exact absurd hc.1 (by decide)
            · exact absurd hc.1 (by decide)
            · obtain ⟨rfl, rfl⟩ := next_read.1 hn
              cases h with
              | nil => exact .inl ⟨rfl, rfl, rfl, rfl⟩
              | @cons _ _ i e s4 l4 _ _ hx hc hn h =>
                exfalso
                rcases awO_at hx with ⟨rfl, rfl⟩ | ⟨rfl, rfl⟩ | ⟨rfl, rfl⟩ <;> exact absurd hc.1 (by decide)
        · exact absurd (hb hc) (by decide)
    · obtain ⟨rfl, rfl⟩ := next_read.1 hn
      cases h with
      | nil => exact absurd g0 (by decide)
      | @cons _ _ i e s2 l2 _ _ hx hc hn h =>
        rcases awO_at hx with ⟨rfl, rfl⟩ | ⟨rfl, rfl⟩ | ⟨rfl, rfl⟩
        · rw [next_write hv] at hn
          obtain rfl := Option.some.inj hn
          cases h with
          | nil => exact absurd g2 (by decide)
          | @cons _ _ i e s3 l3 _ _ hx hc hn h =>
            rcases awO_at hx with ⟨rfl, rfl⟩ | ⟨rfl, rfl⟩ | ⟨rfl, rfl⟩
            · exact absurd hc.1 (by decide)
            · exact absurd hc.1 (by decide)
            · obtain ⟨rfl, rfl⟩ := next_read.1 hn
              cases h with
              | nil => exact .inr (.inl ⟨rfl, rfl, rfl, rfl⟩)
              | @cons _ _ i e s4 l4 _ _ hx hc hn h =>
                exfalso
                rcases awO_at hx with ⟨rfl, rfl⟩ | ⟨rfl, rfl⟩ | ⟨rfl, rfl⟩ <;> exact absurd hc.1 (by decide)
        · exact absurd hc.1 (by decide)
        · obtain ⟨rfl, rfl⟩ := next_read.1 hn
          cases h with
          | nil => exact absurd g0 (by decide)
          | @cons _ _ i e s3 l3 _ _ hx hc hn h =>
            rcases awO_at hx with ⟨rfl, rfl⟩ | ⟨rfl, rfl⟩ | ⟨rfl, rfl⟩
            · rw [next_write hv] at hn
              obtain rfl := Option.some.inj hn
              cases h with
              | nil => exact .inr (.inr ⟨rfl, rfl, rfl, rfl⟩)
              | @cons _ _ i e s4 l4 _ _ hx hc hn h =>
                exfalso
                rcases awO_at hx with ⟨rfl, rfl⟩ | ⟨rfl, rfl⟩ | ⟨rfl, rfl⟩ <;> exact absurd hc.1 (by decide)
            · exact absurd hc.1 (by decide)
            · exact absurd hc.1 (by decide)
    · exact absurd (hb hc) (by decide)
theorem aw_way {v z : ByteArray} (hv : v.size = 16) : Path (awH v z v) (awO v z v) 0 z [2, 1, 3] 7 v := by
  have c1 : canP (awH v z v) (awO v z v) 0 1 (awR true 2 z) := ⟨by decide, rfl, fun k y hk hm hb => by
    rcases awO_at hk with ⟨rfl, rfl⟩ | ⟨rfl, rfl⟩ | ⟨rfl, rfl⟩ <;> exact absurd (show false = true from hb) (by decide)⟩
  have c2 : canP (awH v z v) (awO v z v) 2 0 (awW true v) := ⟨by decide, rfl, fun k y hk hm hb => by
    rcases awO_at hk with ⟨rfl, rfl⟩ | ⟨rfl, rfl⟩ | ⟨rfl, rfl⟩ <;> exact absurd (show false = true from hb) (by decide)⟩
  have c3 : canP (awH v z v) (awO v z v) 3 2 (awR true 3 v) := ⟨by decide, rfl, fun k y hk hm hb => by
    rcases awO_at hk with ⟨rfl, rfl⟩ | ⟨rfl, rfl⟩ | ⟨rfl, rfl⟩
    · decide
    · decide
    · exact absurd (show false = true from hb) (by decide)⟩
  exact .cons (i := 1) rfl c1 (next_read.2 ⟨rfl, rfl⟩) (.cons (i := 0) rfl c2 (next_write hv) (.cons (i := 2) rfl c3 (next_read.2 ⟨rfl, rfl⟩) (.nil _ _)))
theorem aw_full {v x y : ByteArray} : goalP (awO v x y) 7 := fun k e hk _ => by
  rcases awO_at hk with ⟨rfl, rfl⟩ | ⟨rfl, rfl⟩ | ⟨rfl, rfl⟩ <;> decide
theorem lin_path {v : ByteArray} {L : List Ev} {o : List Int} (h : linE [v] L o = 0) : ∃ D u, Path L (opsE L L.length) 0 v o D u ∧ goalP (opsE L L.length) D := by
  obtain ⟨hs, h2⟩ := lin_parts0 h
  unfold linOk at h2
  rw [Bool.and_eq_true] at h2
  obtain ⟨B', hB⟩ := Option.isSome_iff_exists.1 h2.2
  have hR := (sizes_parts hs).1
  obtain ⟨D, u, _, hp, hg⟩ := order_path hR (right_opn hR) h2.1 hB
  exact ⟨D, u, hp, hg⟩
theorem aw_no {v z : ByteArray} (hv : v.size = 16) (hz : z.size = 16) (hvz : v ≠ z) : ¬ ∃ o, linE [z] (awH v v z) o = 0 := by
  rintro ⟨o, h⟩
  obtain ⟨D, u, hp, hg⟩ := lin_path h
  rw [aw_opsE (aw_hist hv hv hz)] at hp hg
  rcases aw_path hv hp hg with ⟨_, _, h2, _⟩ | ⟨_, h2, _, _⟩ | ⟨_, h2, _, _⟩
  · exact hvz h2.symm
  · exact hvz h2
  · exact hvz h2
theorem aw_one {v z : ByteArray} (hv : v.size = 16) (hz : z.size = 16) (hvz : v ≠ z) {o : List Int} (h : linE [z] (awH v z v) o = 0) : o = [2, 1, 3] := by
  obtain ⟨D, u, hp, hg⟩ := lin_path h
  rw [aw_opsE (aw_hist hv hz hv)] at hp hg
  rcases aw_path hv hp hg with ⟨_, h2, _, _⟩ | ⟨h2, _, _, _⟩ | ⟨_, _, h2, _⟩
  · exact absurd h2.symm hvz
  · exact h2
  · exact absurd h2 hvz
theorem aw_yes {v z : ByteArray} (hv : v.size = 16) (hz : z.size = 16) : linE [z] (awH v z v) [2, 1, 3] = 0 := by
  have ho := aw_opsE (aw_hist hv hz hv)
  exact path_lin (aw_sizes hv hz hv hz) (by rw [ho]; exact aw_way hv) (by rw [ho]; exact aw_full)
theorem aw_ends {v z : ByteArray} (hv : v.size = 16) (hz : z.size = 16) (hvz : v ≠ z) (u : ByteArray) : endV z (awH v z v) u ↔ u = v := by
  have ho := aw_opsE (aw_hist hv hz hv)
  constructor
  · rintro ⟨_, l, D, hp, hg⟩
    rw [ho] at hp hg
    rcases aw_path hv hp hg with ⟨_, _, _, h2⟩ | ⟨_, _, _, h2⟩ | ⟨_, _, _, h2⟩ <;> exact h2
  · rintro rfl
    exact ⟨aw_single hv hz hv hz, [2, 1, 3], 7, by rw [ho]; exact aw_way hv, by rw [ho]; exact aw_full⟩
end Go.Proofs.YtnmhnjjehglcfaaGreat.LinMath

/- The walk of ModelReads. -/
namespace Go.Proofs.YtnmhnjjehglcfaaGreat.Ents
open Go.RowKit Plan ModMath CmdMath Rws Env LayMath
theorem made16 (w : World) : (Instr.makeSlice 64 (.int .i64 16) (.int .i64 16)).run Tryz.prog w = .ok (.slice (some ⟨w.heap.size, 0, none⟩) 16 16) (w.alloc (.cells (madeCells #[.int .u8 0] 16) 5)) :=
  run_make_row' (P := Tryz.prog) 64 5 (.int .u8 0) 1 Tryz.underlying64 info_byteC rfl .i64 .i64 16 (by omega) (by omega) w
theorem conv16 (w : World) : (convert 64 9 (.slice (some ⟨w.heap.size, 0, none⟩) 16 16)).run Tryz.prog (w.alloc (.cells (madeCells #[.int .u8 0] 16) 5)) = .ok (.string zeroC) (w.alloc (.cells (madeCells #[.int .u8 0] 16) 5)) := by
  have h1 := run_convert_bytes_back (P := Tryz.prog) (w.alloc (.cells (madeCells #[.int .u8 0] 16) 5)) 64 9 5 ⟨w.heap.size, 0, none⟩ 16 (List.replicate 16 0) Tryz.underlying64 Tryz.underlying5 Tryz.underlying9 (fun j hj => by
    have hj' : j < 16 := by simpa using hj
    have e : (⟨w.heap.size, 0, none⟩ : Addr).add j = ⟨w.heap.size, j, none⟩ := by unfold Addr.add; split <;> simp_all
    rw [e, (World.rowIs_made w (.int .u8 0) 16 5).cell hj', List.getElem_replicate]
    rfl)
  rwa [List.length_replicate] at h1
theorem str_info1 : (Tryz.prog.info? 9).map (·.size) = some 1 := by kernel_rfl
theorem newB_is {N : Nat} (h1 : 1 ≤ N) (h2 : N ≤ 128) : newB (N : Int) = List.replicate N zeroC := by
  unfold newB; rw [if_neg (by omega), Int.toNat_natCast]
end Go.Proofs.YtnmhnjjehglcfaaGreat.Ents
