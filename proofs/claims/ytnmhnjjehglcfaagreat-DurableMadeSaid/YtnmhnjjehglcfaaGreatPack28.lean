/- Texts that belong together, part 28. -/
import Derived.Test.YtnmhnjjehglcfaaGreatPack27
import Derived.Shelf.Sort.Plain
import Derived.Sort.OwnSorted
import Derived.Deep.DeepCutAuto

/- The walk of the program's ask, with each of its closures. -/
namespace Go.Proofs.YtnmhnjjehglcfaaGreat.DurMath
open HisMath LinMath
theorem fil_next {O : List Ev} {P : Ev → Bool} {j : Nat} {e : Ev} (h : O[j]? = some e) : (P e = true → (O.take (j + 1)).filter P = (O.take j).filter P ++ [e]) ∧ (P e = false → (O.take (j + 1)).filter P = (O.take j).filter P) := by
  rw [take_snoc h, List.filter_append]
  exact ⟨fun hp => by simp [hp], fun hp => by simp [hp]⟩
end Go.Proofs.YtnmhnjjehglcfaaGreat.DurMath
namespace Go.Proofs.YtnmhnjjehglcfaaGreat.Ents
open Go.RowKit Plan HisMath LinMath DurMath ModMath CmdMath Rws Env LayMath
set_option maxHeartbeats 8000000 in
set_option maxRecDepth 20000 in
theorem durAskF1_any (F : Nat → Prop) (L : List Ev) (a : Option Addr) (n c : Nat) (P : Ev → Bool) (w : World) (hl : VList w F a n c L) (hm : n ≤ 100000)
    (HK : ∀ W e, Below w.heap.size w W → Calls Tryz.prog 124 #[evV e] W fun r w' => r = .returned (.bool (P e)) ∧ Below W.heap.size W w') :
    Calls Tryz.prog 116 #[.slice a n c, .func (.func 124) #[] #[]] w (OVPost w ((opsE L n).filter P)) := by
  have HO := Lib.hid (hisOps_any F L a n c w hl hm)
  have hol : (opsE L n).length ≤ n := by rw [← calls_map, List.length_map]; exact calls_len L n
  unfold VPost at HO
  unfold OVPost
  have hb := Below.refl w.heap.size w
  replace HK := Lib.hid HK
  generalize opsE L n = O at *
  clear hl
  go_enter Tryz.func116, Tryz.ntmps116
  go_upto_block 0 with (first
    | (go_at_call 77; ((with_reducible refine HO.out.mono ?_); rintro r9 w1 ⟨oa, m, oc, rfl, lo, h9⟩; replace hb := hb.trans h9; clear h9 HO)))
  have hml := lo.length
  have HAT := Lib.hid (fun W (h : Below w1.heap.size w1 W) i (hi : i < m) => ev_at (lo.same h) i hi)
  have HB := Lib.hid hb
  have K := (Env.start w1).nil VR
  rw [show ([] : List Ev) = (O.take 0).filter P from rfl] at K
  clear lo hb
  go_wp2_with fail
  go_loopw [5, 11] (fun x5 x11 wr => ∃ (j k : Nat) (u : Value), x11 = .int .i64 (j : Int) ∧ j ≤ m ∧ x5 = u ∧ k ≤ j ∧ Env w1 wr [Env.lst VR u k ((O.take j).filter P)]) (fun _ x11 _ => m - (intOf x11).toNat)
  case atStart => exact ⟨0, 0, _, rfl, by omega, rfl, by omega, K⟩
  case round =>
    clear K
    obtain ⟨j, k, u, rfl, hj, rfl, hk, K⟩ := hrel
    by_cases hlt : j < m
    · obtain ⟨x, e, rfl, he, c0, c1, c2, c3, c4, c5, c6, c7⟩ := HAT.out _ K.hb j hlt
      have hjI : (j : Int) < (m : Int) := by omega
      have HQ := Lib.hid (fil_next (P := P) he)
      have HF := Lib.hid (fun W (h : Below w1.heap.size w1 W) => HK.out W e (HB.out.trans (h.mono HB.out.size)))
      obtain ⟨er, eq, es, ek, eb, ed, ee, ex⟩ := e
      simp only at c0 c1 c2 c3 c4 c5 c6 c7 HF
      clear he
      generalize (O.take j).filter P = RX at *
      go_upto_region 5 with fail
      replace K := K.al (.cells #[.bool er, .int .i64 eq, .int .i64 es, .int .i64 ek, .int .i64 eb, .string ed, .int .i64 ee, .string ex] 55)
      obtain ⟨g, hg⟩ : ∃ g, wr.heap.size = g := ⟨_, rfl⟩
      rw [hg] at K
      simp only [hg]
      generalize wr.alloc (.cells #[.bool er, .int .i64 eq, .int .i64 es, .int .i64 ek, .int .i64 eb, .string ed, .int .i64 ee, .string ex] 55) = w2 at *
      clear c0 c1 c2 c3 c4 c5 c6 c7 hg
      obtain ⟨c0, c1, c2, c3, c4, c5, c6, c7⟩ := ev_cells (K.get 0 rfl)
      cases hq : P ⟨er, eq, es, ek, eb, ed, ee, ex⟩ with
      | true =>
        replace HQ := Lib.hid (HQ.out.1 hq)
        rw [hq] at HF
        clear hq
        go_upto_region 6 with (first
          | ((with_reducible refine Plan.load_lit 55 (.tmp 7) g ?_ (K.get 0 rfl) Tryz.underlying55 ?_ ?_ ?_); (· rfl); (· rfl); (· exact ev_info); simp only [Act.put, List.setIfInBounds_toArray, List.set_cons_zero, List.set_cons_succ])
          | (go_at_call 124; ((with_reducible refine (HF.out _ K.hb).mono ?_); rintro r9 w3 ⟨rfl, h9⟩; replace K := K.on h9; clear h9)))
        have KB := K.al (.cells #[.bool er, .int .i64 eq, .int .i64 es, .int .i64 ek, .int .i64 eb, .string ed, .int .i64 ee, .string ex] 55)
        go_wp2_with (first
          | ((with_reducible refine Plan.load_lit 55 (.tmp 7) g ?_ (K.get 0 rfl) Tryz.underlying55 ?_ ?_ ?_); (· rfl); (· rfl); (· exact ev_info); simp only [Act.put, List.setIfInBounds_toArray, List.set_cons_zero, List.set_cons_succ])
          | (refine KB.apps_one vrOk rfl (.tmp 18) (.tmp 20) rfl 2 0 rfl rfl (e := ⟨er, eq, es, ek, eb, ed, ee, ex⟩) rfl rfl (by omega) ?_; intro g3 c3 w4 K8 k8; simp only [List.set] at K8 k8; simp only [Act.put, List.setIfInBounds_toArray, List.set_cons_zero, List.set_cons_succ]; clear KB K k8))
        have K9 := K8.sub (T' := [Env.lst VR (Env.slv g3 (k + 1) c3) (k + 1) (RX ++ [⟨er, eq, es, ek, eb, ed, ee, ex⟩])]) [2] rfl (by simp) (by simp)
        rw [← HQ.out] at K9
        go_roundw
        case rel => exact ⟨j + 1, k + 1, _, by go_num, by omega, rfl, by omega, K9⟩
        case measure => simp [intOf]; omega
      | false =>
        replace HQ := HQ.out.2 hq
        rw [hq] at HF
        clear hq
        go_wp2_with (first
          | ((with_reducible refine Plan.load_lit 55 (.tmp 7) g ?_ (K.get 0 rfl) Tryz.underlying55 ?_ ?_ ?_); (· rfl); (· rfl); (· exact ev_info); simp only [Act.put, List.setIfInBounds_toArray, List.set_cons_zero, List.set_cons_succ])
          | (go_at_call 124; ((with_reducible refine (HF.out _ K.hb).mono ?_); rintro r9 w3 ⟨rfl, h9⟩; replace K := K.on h9; clear h9)))
        replace K := K.sub (T' := [Env.lst VR _ k RX]) [1] rfl (by simp) (by simp)
        rw [← HQ] at K
        go_roundw
        case rel => exact ⟨j + 1, k, _, by go_num, by omega, rfl, by omega, K⟩
        case measure => simp [intOf]; omega
    · obtain rfl : j = m := by omega
      have hjI : ¬ (j : Int) < (j : Int) := by omega
      rw [show O.take j = O from List.take_of_length_le (by omega)] at K
      clear HAT hml hol
      go_wp2_with fail
      go_ret
      exact ⟨_, rfl, ⟨_, owns_mono (K.own 0 rfl) HB.out.size⟩, HB.out.trans (K.hb.mono HB.out.size)⟩
set_option maxHeartbeats 8000000 in
set_option maxRecDepth 20000 in
theorem durAskA1_any (F : Nat → Prop) (L : List Ev) (a : Option Addr) (n c : Nat) (P : Ev → Bool) (w : World) (hl : VList w F a n c L) (hm : n ≤ 100000)
    (HK : ∀ W e, Below w.heap.size w W → Calls Tryz.prog 117 #[evV e] W fun r w' => r = .returned (.bool (P e)) ∧ Below W.heap.size W w') :
    Calls Tryz.prog 116 #[.slice a n c, .func (.func 117) #[] #[]] w (OVPost w ((opsE L n).filter P)) := by
  have HO := Lib.hid (hisOps_any F L a n c w hl hm)
  have hol : (opsE L n).length ≤ n := by rw [← calls_map, List.length_map]; exact calls_len L n
  unfold VPost at HO
  unfold OVPost
  have hb := Below.refl w.heap.size w
  replace HK := Lib.hid HK
  generalize opsE L n = O at *
  clear hl
  go_enter Tryz.func116, Tryz.ntmps116
  go_upto_block 0 with (first
    | (go_at_call 77; ((with_reducible refine HO.out.mono ?_); rintro r9 w1 ⟨oa, m, oc, rfl, lo, h9⟩; replace hb := hb.trans h9; clear h9 HO)))
  have hml := lo.length
  have HAT := Lib.hid (fun W (h : Below w1.heap.size w1 W) i (hi : i < m) => ev_at (lo.same h) i hi)
  have HB := Lib.hid hb
  have K := (Env.start w1).nil VR
  rw [show ([] : List Ev) = (O.take 0).filter P from rfl] at K
  clear lo hb
  go_wp2_with fail
  go_loopw [5, 11] (fun x5 x11 wr => ∃ (j k : Nat) (u : Value), x11 = .int .i64 (j : Int) ∧ j ≤ m ∧ x5 = u ∧ k ≤ j ∧ Env w1 wr [Env.lst VR u k ((O.take j).filter P)]) (fun _ x11 _ => m - (intOf x11).toNat)
  case atStart => exact ⟨0, 0, _, rfl, by omega, rfl, by omega, K⟩
  case round =>
    clear K
    obtain ⟨j, k, u, rfl, hj, rfl, hk, K⟩ := hrel
    by_cases hlt : j < m
    · obtain ⟨x, e, rfl, he, c0, c1, c2, c3, c4, c5, c6, c7⟩ := HAT.out _ K.hb j hlt
      have hjI : (j : Int) < (m : Int) := by omega
      have HQ := Lib.hid (fil_next (P := P) he)
      have HF := Lib.hid (fun W (h : Below w1.heap.size w1 W) => HK.out W e (HB.out.trans (h.mono HB.out.size)))
      obtain ⟨er, eq, es, ek, eb, ed, ee, ex⟩ := e
      simp only at c0 c1 c2 c3 c4 c5 c6 c7 HF
      clear he
      generalize (O.take j).filter P = RX at *
      go_upto_region 5 with fail
      replace K := K.al (.cells #[.bool er, .int .i64 eq, .int .i64 es, .int .i64 ek, .int .i64 eb, .string ed, .int .i64 ee, .string ex] 55)
      obtain ⟨g, hg⟩ : ∃ g, wr.heap.size = g := ⟨_, rfl⟩
      rw [hg] at K
      simp only [hg]
      generalize wr.alloc (.cells #[.bool er, .int .i64 eq, .int .i64 es, .int .i64 ek, .int .i64 eb, .string ed, .int .i64 ee, .string ex] 55) = w2 at *
      clear c0 c1 c2 c3 c4 c5 c6 c7 hg
      obtain ⟨c0, c1, c2, c3, c4, c5, c6, c7⟩ := ev_cells (K.get 0 rfl)
      cases hq : P ⟨er, eq, es, ek, eb, ed, ee, ex⟩ with
      | true =>
        replace HQ := Lib.hid (HQ.out.1 hq)
        rw [hq] at HF
        clear hq
        go_upto_region 6 with (first
          | ((with_reducible refine Plan.load_lit 55 (.tmp 7) g ?_ (K.get 0 rfl) Tryz.underlying55 ?_ ?_ ?_); (· rfl); (· rfl); (· exact ev_info); simp only [Act.put, List.setIfInBounds_toArray, List.set_cons_zero, List.set_cons_succ])
          | (go_at_call 117; ((with_reducible refine (HF.out _ K.hb).mono ?_); rintro r9 w3 ⟨rfl, h9⟩; replace K := K.on h9; clear h9)))
        have KB := K.al (.cells #[.bool er, .int .i64 eq, .int .i64 es, .int .i64 ek, .int .i64 eb, .string ed, .int .i64 ee, .string ex] 55)
        go_wp2_with (first
          | ((with_reducible refine Plan.load_lit 55 (.tmp 7) g ?_ (K.get 0 rfl) Tryz.underlying55 ?_ ?_ ?_); (· rfl); (· rfl); (· exact ev_info); simp only [Act.put, List.setIfInBounds_toArray, List.set_cons_zero, List.set_cons_succ])
          | (refine KB.apps_one vrOk rfl (.tmp 18) (.tmp 20) rfl 2 0 rfl rfl (e := ⟨er, eq, es, ek, eb, ed, ee, ex⟩) rfl rfl (by omega) ?_; intro g3 c3 w4 K8 k8; simp only [List.set] at K8 k8; simp only [Act.put, List.setIfInBounds_toArray, List.set_cons_zero, List.set_cons_succ]; clear KB K k8))
        have K9 := K8.sub (T' := [Env.lst VR (Env.slv g3 (k + 1) c3) (k + 1) (RX ++ [⟨er, eq, es, ek, eb, ed, ee, ex⟩])]) [2] rfl (by simp) (by simp)
        rw [← HQ.out] at K9
        go_roundw
        case rel => exact ⟨j + 1, k + 1, _, by go_num, by omega, rfl, by omega, K9⟩
        case measure => simp [intOf]; omega
      | false =>
        replace HQ := HQ.out.2 hq
        rw [hq] at HF
        clear hq
        go_wp2_with (first
          | ((with_reducible refine Plan.load_lit 55 (.tmp 7) g ?_ (K.get 0 rfl) Tryz.underlying55 ?_ ?_ ?_); (· rfl); (· rfl); (· exact ev_info); simp only [Act.put, List.setIfInBounds_toArray, List.set_cons_zero, List.set_cons_succ])
          | (go_at_call 117; ((with_reducible refine (HF.out _ K.hb).mono ?_); rintro r9 w3 ⟨rfl, h9⟩; replace K := K.on h9; clear h9)))
        replace K := K.sub (T' := [Env.lst VR _ k RX]) [1] rfl (by simp) (by simp)
        rw [← HQ] at K
        go_roundw
        case rel => exact ⟨j + 1, k, _, by go_num, by omega, rfl, by omega, K⟩
        case measure => simp [intOf]; omega
    · obtain rfl : j = m := by omega
      have hjI : ¬ (j : Int) < (j : Int) := by omega
      rw [show O.take j = O from List.take_of_length_le (by omega)] at K
      clear HAT hml hol
      go_wp2_with fail
      go_ret
      exact ⟨_, rfl, ⟨_, owns_mono (K.own 0 rfl) HB.out.size⟩, HB.out.trans (K.hb.mono HB.out.size)⟩
set_option maxHeartbeats 8000000 in
set_option maxRecDepth 20000 in
theorem durAskA2_any (F : Nat → Prop) (L : List Ev) (a : Option Addr) (n c : Nat) (P : Ev → Bool) (g1 g2 : Nat) (w : World) (hl : VList w F a n c L) (hm : n ≤ 100000)
    (HK : ∀ W e, Below w.heap.size w W → Calls Tryz.prog 120 #[evV e, .pointer (some ⟨g1, 0, none⟩), .pointer (some ⟨g2, 0, none⟩)] W fun r w' => r = .returned (.bool (P e)) ∧ Below W.heap.size W w') :
    Calls Tryz.prog 116 #[.slice a n c, .func (.func 120) #[] #[.pointer (some ⟨g1, 0, none⟩), .pointer (some ⟨g2, 0, none⟩)]] w (OVPost w ((opsE L n).filter P)) := by
  have HO := Lib.hid (hisOps_any F L a n c w hl hm)
  have hol : (opsE L n).length ≤ n := by rw [← calls_map, List.length_map]; exact calls_len L n
  unfold VPost at HO
  unfold OVPost
  have hb := Below.refl w.heap.size w
  replace HK := Lib.hid HK
  generalize opsE L n = O at *
  clear hl
  go_enter Tryz.func116, Tryz.ntmps116
  go_upto_block 0 with (first
    | (go_at_call 77; ((with_reducible refine HO.out.mono ?_); rintro r9 w1 ⟨oa, m, oc, rfl, lo, h9⟩; replace hb := hb.trans h9; clear h9 HO)))
  have hml := lo.length
  have HAT := Lib.hid (fun W (h : Below w1.heap.size w1 W) i (hi : i < m) => ev_at (lo.same h) i hi)
  have HB := Lib.hid hb
  have K := (Env.start w1).nil VR
  rw [show ([] : List Ev) = (O.take 0).filter P from rfl] at K
  clear lo hb
  go_wp2_with fail
  go_loopw [5, 11] (fun x5 x11 wr => ∃ (j k : Nat) (u : Value), x11 = .int .i64 (j : Int) ∧ j ≤ m ∧ x5 = u ∧ k ≤ j ∧ Env w1 wr [Env.lst VR u k ((O.take j).filter P)]) (fun _ x11 _ => m - (intOf x11).toNat)
  case atStart => exact ⟨0, 0, _, rfl, by omega, rfl, by omega, K⟩
  case round =>
    clear K
    obtain ⟨j, k, u, rfl, hj, rfl, hk, K⟩ := hrel
    by_cases hlt : j < m
    · obtain ⟨x, e, rfl, he, c0, c1, c2, c3, c4, c5, c6, c7⟩ := HAT.out _ K.hb j hlt
      have hjI : (j : Int) < (m : Int) := by omega
      have HQ := Lib.hid (fil_next (P := P) he)
      have HF := Lib.hid (fun W (h : Below w1.heap.size w1 W) => HK.out W e (HB.out.trans (h.mono HB.out.size)))
      obtain ⟨er, eq, es, ek, eb, ed, ee, ex⟩ := e
      simp only at c0 c1 c2 c3 c4 c5 c6 c7 HF
      clear he
      generalize (O.take j).filter P = RX at *
      go_upto_region 5 with fail
      replace K := K.al (.cells #[.bool er, .int .i64 eq, .int .i64 es, .int .i64 ek, .int .i64 eb, .string ed, .int .i64 ee, .string ex] 55)
      obtain ⟨g, hg⟩ : ∃ g, wr.heap.size = g := ⟨_, rfl⟩
      rw [hg] at K
      simp only [hg]
      generalize wr.alloc (.cells #[.bool er, .int .i64 eq, .int .i64 es, .int .i64 ek, .int .i64 eb, .string ed, .int .i64 ee, .string ex] 55) = w2 at *
      clear c0 c1 c2 c3 c4 c5 c6 c7 hg
      obtain ⟨c0, c1, c2, c3, c4, c5, c6, c7⟩ := ev_cells (K.get 0 rfl)
      cases hq : P ⟨er, eq, es, ek, eb, ed, ee, ex⟩ with
      | true =>
        replace HQ := Lib.hid (HQ.out.1 hq)
        rw [hq] at HF
        clear hq
        go_upto_region 6 with (first
          | ((with_reducible refine Plan.load_lit 55 (.tmp 7) g ?_ (K.get 0 rfl) Tryz.underlying55 ?_ ?_ ?_); (· rfl); (· rfl); (· exact ev_info); simp only [Act.put, List.setIfInBounds_toArray, List.set_cons_zero, List.set_cons_succ])
          | (go_at_call 120; ((with_reducible refine (HF.out _ K.hb).mono ?_); rintro r9 w3 ⟨rfl, h9⟩; replace K := K.on h9; clear h9)))
        have KB := K.al (.cells #[.bool er, .int .i64 eq, .int .i64 es, .int .i64 ek, .int .i64 eb, .string ed, .int .i64 ee, .string ex] 55)
        go_wp2_with (first
          | ((with_reducible refine Plan.load_lit 55 (.tmp 7) g ?_ (K.get 0 rfl) Tryz.underlying55 ?_ ?_ ?_); (· rfl); (· rfl); (· exact ev_info); simp only [Act.put, List.setIfInBounds_toArray, List.set_cons_zero, List.set_cons_succ])
          | (refine KB.apps_one vrOk rfl (.tmp 18) (.tmp 20) rfl 2 0 rfl rfl (e := ⟨er, eq, es, ek, eb, ed, ee, ex⟩) rfl rfl (by omega) ?_; intro g3 c3 w4 K8 k8; simp only [List.set] at K8 k8; simp only [Act.put, List.setIfInBounds_toArray, List.set_cons_zero, List.set_cons_succ]; clear KB K k8))
        have K9 := K8.sub (T' := [Env.lst VR (Env.slv g3 (k + 1) c3) (k + 1) (RX ++ [⟨er, eq, es, ek, eb, ed, ee, ex⟩])]) [2] rfl (by simp) (by simp)
        rw [← HQ.out] at K9
        go_roundw
        case rel => exact ⟨j + 1, k + 1, _, by go_num, by omega, rfl, by omega, K9⟩
        case measure => simp [intOf]; omega
      | false =>
        replace HQ := HQ.out.2 hq
        rw [hq] at HF
        clear hq
        go_wp2_with (first
          | ((with_reducible refine Plan.load_lit 55 (.tmp 7) g ?_ (K.get 0 rfl) Tryz.underlying55 ?_ ?_ ?_); (· rfl); (· rfl); (· exact ev_info); simp only [Act.put, List.setIfInBounds_toArray, List.set_cons_zero, List.set_cons_succ])
          | (go_at_call 120; ((with_reducible refine (HF.out _ K.hb).mono ?_); rintro r9 w3 ⟨rfl, h9⟩; replace K := K.on h9; clear h9)))
        replace K := K.sub (T' := [Env.lst VR _ k RX]) [1] rfl (by simp) (by simp)
        rw [← HQ] at K
        go_roundw
        case rel => exact ⟨j + 1, k, _, by go_num, by omega, rfl, by omega, K⟩
        case measure => simp [intOf]; omega
    · obtain rfl : j = m := by omega
      have hjI : ¬ (j : Int) < (j : Int) := by omega
      rw [show O.take j = O from List.take_of_length_le (by omega)] at K
      clear HAT hml hol
      go_wp2_with fail
      go_ret
      exact ⟨_, rfl, ⟨_, owns_mono (K.own 0 rfl) HB.out.size⟩, HB.out.trans (K.hb.mono HB.out.size)⟩
end Go.Proofs.YtnmhnjjehglcfaaGreat.Ents

/- The walk of the program's flushed. -/
namespace Go.Proofs.YtnmhnjjehglcfaaGreat.Ents
open Go.RowKit Plan HisMath LinMath DurMath ModMath CmdMath Rws Env LayMath
set_option maxHeartbeats 8000000 in
set_option maxRecDepth 20000 in
theorem durIndex_any (F : Nat → Prop) (L : List Ev) (a : Option Addr) (n c : Nat) (f : Ev) (g : Nat) (w : World) (hl : VList w F a n c L) (h1 : w.heap[g]? = some (.cells #[.bool f.ret, .int .i64 f.queue, .int .i64 f.serial, .int .i64 f.kind, .int .i64 f.block, .string f.data, .int .i64 f.err, .string f.res] 55 (0, 0))) :
    Calls Tryz.prog 105 #[.slice a n c, .func (.func 125) #[] #[.pointer (some ⟨g, 0, none⟩)]] w fun x w' => x = .returned (.int .i64 (seek (serP f.serial) L)) ∧ Below w.heap.size w w' := by
  have hlen := hl.length
  have hcp := hl.cap
  unfold maxLen at hcp
  have HAT := Lib.hid (fun W (h : Below w.heap.size w W) i (hi : i < n) => ev_at (hl.same h) i hi)
  have HK := Lib.hid (fun W (h : Below w.heap.size w W) e => durFl2_any e f g W (e_on h h1 (e_lt h1)))
  generalize f.serial = s at *
  have HYES := Lib.hid (fun (j : Nat) (e : Ev) (h1 : L[j]? = some e) (h2 : serP s e = true) (h3 : ∀ i x, i < j → L[i]? = some x → serP s x = false) => seek_at h1 h2 h3)
  have HNO := Lib.hid (fun (h : ∀ i x, i < n → L[i]? = some x → serP s x = false) => seek_none (l := L) (by rw [hlen]; exact h))
  clear hl h1 hlen
  go_enter Tryz.func105, Tryz.ntmps105
  go_wp2
  go_loopw [8] (fun x wr => ∃ j : Nat, x = .int .i64 (j : Int) ∧ j ≤ n ∧ RowKit.Hid (∀ i x, i < j → L[i]? = some x → serP s x = false) ∧ Below w.heap.size w wr) (fun x _ => n - (intOf x).toNat)
  case atStart => exact ⟨0, rfl, by omega, Lib.hid (fun i _ hi => absurd hi (Nat.not_lt_zero _)), Below.refl _ _⟩
  case round =>
    obtain ⟨j, rfl, hj, hall, hb⟩ := hrel
    by_cases hlt : j < n
    · obtain ⟨x, e, rfl, he, c0, c1, c2, c3, c4, c5, c6, c7⟩ := HAT.out wr hb j hlt
      have hk := HK.out wr hb e
      have hjI : (j : Int) < (n : Int) := by omega
      have HE := Lib.hid he
      by_cases hq : serP s e = true
      · have HR := Lib.hid (HYES.out j _ HE.out hq hall.out)
        rw [hq] at hk
        clear hq he HE
        obtain ⟨er, eq, es, ek, eb, ed, ee, ex⟩ := e
        simp only at hk c0 c1 c2 c3 c4 c5 c6 c7
        have hk := Lib.hid hk
        go_wp2_with (first
          | (go_at_call 125; ((with_reducible refine hk.out.mono ?_); rintro e9 w1 ⟨rfl, h1⟩)))
        go_ret
        exact ⟨r_i HR.out.symm, hb.trans (h1.mono hb.size)⟩
      · replace hq : serP s e = false := by simpa using hq
        have HN : RowKit.Hid (∀ i x, i < j + 1 → L[i]? = some x → serP s x = false) := Lib.hid (fun i x hi hx => by
          rcases Nat.lt_or_ge i j with h9 | h9
          · exact hall.out i x h9 hx
          · obtain rfl : i = j := by omega
            rw [HE.out] at hx
            cases hx
            exact hq)
        rw [hq] at hk
        clear hq he HE
        obtain ⟨er, eq, es, ek, eb, ed, ee, ex⟩ := e
        simp only at hk c0 c1 c2 c3 c4 c5 c6 c7
        have hk := Lib.hid hk
        go_wp2_with (first
          | (go_at_call 125; ((with_reducible refine hk.out.mono ?_); rintro e9 w1 ⟨rfl, h1⟩)))
        go_roundw
        case rel => exact ⟨j + 1, by go_num, by omega, HN, hb.trans (h1.mono hb.size)⟩
        case measure => simp [intOf]; omega
    · obtain rfl : j = n := by omega
      have hjI : ¬ (j : Int) < (j : Int) := by omega
      have HR := Lib.hid (HNO.out hall.out)
      go_wp2_with fail
      go_ret
      exact ⟨r_i HR.out.symm, hb⟩
/-- the events ahead of the point -/
def FlPost (w : World) (L : List Ev) (r : Ending) (w' : World) : Prop :=
  ∃ a c, r = .returned (.slice a (ptP L) c) ∧ VList w' (fun b => b < w.heap.size) a (ptP L) c (L.take (ptP L)) ∧ Below w.heap.size w w'
set_option maxHeartbeats 8000000 in
set_option maxRecDepth 20000 in
theorem durFlushed_any (F : Nat → Prop) (L : List Ev) (a : Option Addr) (n c : Nat) (w : World) (hl : VList w F a n c L) (hm : n ≤ 100000) (hR : Right L) :
    Calls Tryz.prog 94 #[.slice a n c] w (FlPost w L) := by
  have hlen := hl.length
  have hcp := hl.cap
  have HA := Lib.hid (durAskF1_any F L a n c flP w hl hm (fun W e _ => durFl1_any e W))
  have hOL : (opsE L n).filter flP = (opsE L L.length).filter flP := by rw [hlen]
  rw [hOL] at HA
  clear hOL
  have HL := Lib.hid (fun W (h : Below w.heap.size w W) => hl.same h)
  have HFN := Lib.hid (fun f (hf : f ∈ (opsE L L.length).filter flP) => pt_found hR (List.mem_filter.1 hf).1)
  have HP0 := Lib.hid (fun h => pt_none (L := L) h)
  have HP1 := Lib.hid (fun f h => pt_last (L := L) (f := f) h)
  unfold OVPost at HA
  unfold FlPost
  generalize (opsE L L.length).filter flP = O at *
  generalize ptP L = P at *
  have K := Env.start w
  clear hl
  go_enter Tryz.func94, Tryz.ntmps94
  go_upto_region 2 with (first
    | (go_at_call 116; ((with_reducible refine HA.out.mono ?_); rintro r9 w9 ⟨v9, rfl, ⟨m, ho⟩, h9⟩; replace K := (K.got h9 ho).1; clear h9 ho HA)))
  have hml := own_len vrOk K 0 rfl
  obtain ⟨oa, oc, rfl, lo⟩ := K.any vrOk 0 rfl
  have hoc := lo.cap
  unfold maxLen at hoc
  by_cases hm0 : 0 < m
  · have hmI : ((m : Int) == 0) = false := by rw [beq_eq_false_iff_ne]; omega
    obtain ⟨z, y, rfl, hy, e0, e1, e2, e3, e4, e5, e6, e7⟩ := ev_at lo (m - 1) (by omega)
    have hgl : O.getLast? = some y := by rw [List.getLast?_eq_getElem?, hml, hy]
    obtain ⟨k, hk, hkl⟩ := HFN.out y (List.mem_of_getElem? hy)
    have HP := HP1.out y hgl
    rw [hk, Int.toNat_natCast] at HP
    subst HP
    clear HP0 HP1
    have HIX := Lib.hid (fun g W (h : Below w.heap.size w W) h1 => durIndex_any _ L a n c y g W (HL.out W h) h1)
    rw [hk] at HIX
    have hm1 : IntKind.i64.wrap ((m : Int) - 1) = ((m - 1 : Nat) : Int) := by rw [IntWalk.i64_in _ (by omega)]; omega
    have hmm : ((m - 1 : Nat) : Int) < (m : Int) := by omega
    have hm2 : (0 : Int) ≤ ((m - 1 : Nat) : Int) := by omega
    have hkn : (P : Int) ≤ (n : Int) := by omega
    have hkc : P ≤ c := by omega
    have hcm : c ≤ maxLen := hcp.2
    obtain ⟨yr, yq, ys, yk, yb, yd, ye, yx⟩ := y
    simp only at e0 e1 e2 e3 e4 e5 e6 e7 HIX
    clear hy hk hgl HFN lo
    go_upto_region 5 with fail
    replace K := K.al (.cells #[.bool yr, .int .i64 yq, .int .i64 ys, .int .i64 yk, .int .i64 yb, .string yd, .int .i64 ye, .string yx] 55)
    obtain ⟨gx, hg⟩ : ∃ gx, w9.heap.size = gx := ⟨_, rfl⟩
    rw [hg] at K
    simp only [hg]
    generalize w9.alloc (.cells #[.bool yr, .int .i64 yq, .int .i64 ys, .int .i64 yk, .int .i64 yb, .string yd, .int .i64 ye, .string yx] 55) = w3 at *
    clear e0 e1 e2 e3 e4 e5 e6 e7 hg
    have hk0 : (0 : Int) ≤ (P : Int) := by omega
    go_wp2_with (first
      | (go_at_call 105; ((with_reducible refine (HIX.out gx _ K.hb (K.get 0 rfl)).mono ?_); rintro r9 w4 ⟨rfl, h9⟩; replace K := K.on h9; clear h9 HIX)))
    go_ret
    exact ⟨a, c, rfl, (HL.out _ K.hb).front vrOk P (by omega), K.hb⟩
  · obtain rfl : m = 0 := by omega
    have hO : O = [] := List.eq_nil_of_length_eq_zero hml
    subst hO
    have hP0 : P = 0 := HP0.out rfl
    subst hP0
    go_wp2_with fail
    go_ret
    exact ⟨none, 0, rfl, TList.nil _ _, K.hb⟩
end Go.Proofs.YtnmhnjjehglcfaaGreat.Ents

/- The library's Sort and Compact at strings of the walk's own. -/
namespace Go.Proofs.YtnmhnjjehglcfaaGreat.Ents
open Go.RowKit Plan HisMath LinMath ModMath CmdMath Rws Env LayMath SrchM
def byL (VL : List ByteArray) : List (List UInt8) := VL.map (·.data.toList)
def ofL (ss : List (List UInt8)) : List ByteArray := ss.map fun l => ⟨l.toArray⟩
theorem of_by (VL : List ByteArray) : ofL (byL VL) = VL := by
  unfold ofL byL
  rw [List.map_map]
  conv => rhs; rw [← List.map_id VL]
  refine List.map_congr_left fun b _ => ?_
  rfl
theorem enc_of (ss : List (List UInt8)) : ss.map encStr = SR.all (ofL ss) := by
  induction ss with
  | nil => rfl
  | cons s ss ih => rw [List.map_cons, ih]; rfl
theorem less_data (x y : ByteArray) : lessB x y = Op.bytesLess x.data.toList y.data.toList := by
  unfold lessB
  rw [Lib.toList_data, Lib.toList_data]
theorem own_row {w W : World} {T : List Thing} {g n c : Nat} {VL : List ByteArray} (K : Env w W (Env.lst SR (Env.slv g n c) n VL :: T)) : ∃ cur, w.heap.size ≤ g ∧ W.heap[g]? = some (.cells cur SR.et (0, 0)) ∧ n ≤ c ∧ c ≤ maxLen ∧ cur.size = c * 1 ∧ (byL VL).length = n ∧ cur.toList.take (byL VL).length = (byL VL).map encStr := by
  have hl := own_len srOk K 0 rfl
  rcases (K.own 0 rfl).2 with ⟨h, _⟩ | ⟨g', c', cur, h, h1, h2, h3, h4, h5, h6⟩
  · cases h
  · cases h
    have hn : (byL VL).length = n := by unfold byL; rw [List.length_map]; exact hl
    refine ⟨cur, h1, h2, h3, h4, h5, hn, ?_⟩
    rw [hn, enc_of, of_by]
    rw [show SR.sz = 1 from rfl, Nat.mul_one] at h6
    exact h6
theorem env_sorted {w W : World} {T : List Thing} {g n c q : Nat} {os : Array Obj} {VL : List ByteArray} (K : Env w W (Env.lst SR (Env.slv g n c) n VL :: T)) (ts : List (List UInt8)) (hl : ts.length = n) : Env w (Sort.grow (Sort.putRow encStr (Sort.ahead W q) g 0 ts.toArray) os) (Env.lst SR (Env.slv g n c) n (ofL ts) :: T) := by
  obtain ⟨cur, h1, h2, h3, h4, h5, h6, h7⟩ := own_row K
  have hown := ownsRow_sorted (n := q) (os := os) (ss := byL VL) (ts := ts) (by rw [hl, h6]) h1 h2 (by rw [h6]; exact h3) h4 h5
  rw [h6, enc_of] at hown
  have hgr := grownBy_sorted (w := W) (g := g) (n := q) (os := os) ts.toArray
  exact K.set hgr 0 rfl (fun g' e => e) (y := Env.lst SR (Env.slv g n c) n (ofL ts)) hown (fun g' e => .inl e)
/-- no later one is less -/
def SortedS (L : List ByteArray) : Prop := ∀ i j (hi : i < L.length) (hj : j < L.length), i < j → lessB L[j] L[i] = false
theorem sort_own {w W : World} {T : List Thing} {g n c : Nat} {VL : List ByteArray} (K : Env w W (Env.lst SR (Env.slv g n c) n VL :: T)) (hn : n ≤ 1000000) :
    Calls Tryz.prog 90 #[.slice (some ⟨g, 0, none⟩) n c] W fun r w' => r = .returned (.tuple #[]) ∧ ∃ ML, Env w w' (Env.lst SR (Env.slv g n c) n ML :: T) ∧ SortedS ML ∧ ∀ x, x ∈ ML ↔ x ∈ VL := by
  obtain ⟨cur, h1, h2, h3, h4, h5, h6, h7⟩ := own_row K
  have hc := Any.slices_Sort_string Tryz.lays190 g 0 c (byL VL) W (holds_of_block h2 h7) (Array.getElem?_eq_some_iff.1 h2).1 (by omega)
  rw [h6] at hc
  refine hc.mono ?_
  rintro r w' ⟨rfl, q, os, rfl⟩
  refine ⟨rfl, ofL ((byL VL).mergeSort fun x y => decide (x ≤ y)), env_sorted K _ (by simp [h6]), ?_, fun x => ?_⟩
  · have hs : ((byL VL).mergeSort fun x y => decide (x ≤ y)).Pairwise (fun x y => decide (x ≤ y) = true) := List.pairwise_mergeSort (fun a b c h1 h2 => by
      rw [decide_eq_true_eq, bl_le] at h1 h2 ⊢
      cases h3 : Op.bytesLess c a with
      | false => rfl
      | true => rw [le_lt h2 h3] at h1; cases h1) (fun a b => by
      rw [Bool.or_eq_true, decide_eq_true_eq, decide_eq_true_eq, bl_le, bl_le]
      cases h3 : Op.bytesLess b a with
      | false => exact .inl rfl
      | true =>
        cases h4 : Op.bytesLess a b with
        | false => exact .inr rfl
        | true => have := bl_trans h3 h4; rw [bl_irr] at this; cases this) (byL VL)
    rw [List.pairwise_iff_getElem] at hs
    intro i j hi hj hij
    unfold ofL at hi hj ⊢
    rw [List.length_map] at hi hj
    have := hs i j hi hj hij
    rw [decide_eq_true_eq, bl_le] at this
    simp only [List.getElem_map, less_data]
    exact this
  · unfold ofL
    simp only [List.mem_map, List.mem_mergeSort]
    constructor
    · rintro ⟨l, hl, rfl⟩
      unfold byL at hl
      obtain ⟨b, hb, rfl⟩ := List.mem_map.1 hl
      exact hb
    · intro hx
      exact ⟨x.data.toList, List.mem_map.2 ⟨x, hx, rfl⟩, rfl⟩
theorem compact_own {w W : World} {T : List Thing} {g n c : Nat} {ML : List ByteArray} (K : Env w W (Env.lst SR (Env.slv g n c) n ML :: T)) (hn : n ≤ 1000000) (hs : SortedS ML) :
    Calls Tryz.prog 91 #[.slice (some ⟨g, 0, none⟩) n c] W fun r w' => ∃ m E, r = .returned (.slice (some ⟨g, 0, none⟩) m c) ∧ Env w w' (Env.lst SR (Env.slv g m c) m E :: T) ∧ AscS E ∧ ∀ x, x ∈ E ↔ x ∈ ML := by
  obtain ⟨cur, h1, h2, h3, h4, h5, h6, h7⟩ := own_row K
  have hc := Tryz.slices_Compact_string g 0 c (byL ML) W (holds_of_block h2 h7) (by omega) (by omega)
  rw [h6] at hc
  have hle := Lib.compact_length_le (byL ML)
  have hca := compact_asc (zs := byL ML) (fun i j hi hj hij => by
    unfold byL at hi hj ⊢
    rw [List.length_map] at hi hj
    simp only [List.getElem_map]
    rw [← less_data]
    exact hs i j hi hj hij)
  refine hc.mono ?_
  rintro r w' ⟨rfl, q, rfl⟩
  have K2 := env_sorted (q := q) (os := #[]) K (Lib.compact (byL ML) ++ List.replicate (n - (Lib.compact (byL ML)).length) []) (by simp; omega)
  have hg : ∀ X : World, Sort.grow X #[] = X := fun X => by simp [Sort.grow]
  rw [hg] at K2
  have K3 := (own_cut srOk (F := fun _ => False) (m := (Lib.compact (byL ML)).length) K2 0 rfl (by omega) (L' := ofL (Lib.compact (byL ML))) (by unfold ofL; rw [List.map_append, List.take_append_of_le_length (by simp), List.take_of_length_le (by simp)])).1
  refine ⟨_, _, rfl, K3, ?_, fun x => ?_⟩
  · unfold AscS ofL
    rw [List.pairwise_map]
    refine hca.1.imp fun {a b} h => ?_
    rw [less_data]
    exact h
  · unfold ofL
    rw [List.mem_map]
    constructor
    · rintro ⟨l, hl, rfl⟩
      have := (hca.2 l).1 hl
      unfold byL at this
      obtain ⟨b, hb, rfl⟩ := List.mem_map.1 this
      exact hb
    · intro hx
      exact ⟨x.data.toList, (hca.2 _).2 (List.mem_map.2 ⟨x, hx, rfl⟩), rfl⟩
end Go.Proofs.YtnmhnjjehglcfaaGreat.Ents

/- The walk of the program's allowed. -/
namespace Go.Proofs.YtnmhnjjehglcfaaGreat.Ents
open Go.RowKit Plan HisMath LinMath DurMath ModMath CmdMath Rws Env LayMath SrchM
/-- what allowed leaves -/
def AllPost (w : World) (X : List ByteArray) (r : Ending) (w' : World) : Prop :=
  ∃ a n c E, r = .returned (.slice a n c) ∧ SList w' (fun b => w.heap.size ≤ b) a n c E ∧ Below w.heap.size w w' ∧ AscS E ∧ ∀ x, x ∈ E ↔ x ∈ X
def baseL (u : ByteArray) (C : List Ev) : List ByteArray := if C.length = 0 then [u] else []
theorem base_len (u : ByteArray) (C : List Ev) : (baseL u C).length ≤ 1 := by unfold baseL; split <;> simp
theorem vals_eq (u : ByteArray) (A C : List Ev) : valsL u A C = baseL u C ++ ((leftL A C).take (leftL A C).length).map valB := by rw [List.take_length]; rfl
theorem base_next {u : ByteArray} {C O : List Ev} {j : Nat} {e : Ev} (h : O[j]? = some e) : baseL u C ++ (O.take (j + 1)).map valB = (baseL u C ++ (O.take j).map valB) ++ [valB e] := by
  rw [take_snoc h, List.map_append, List.append_assoc]
  rfl
set_option maxHeartbeats 8000000 in
set_option maxRecDepth 20000 in
theorem durAllowed_any (u : ByteArray) (F G : Nat → Prop) (L S : List Ev) (a a2 : Option Addr) (n c n2 c2 : Nat) (b : Int) (w : World) (hl : VList w F a n c L) (hs : VList w G a2 n2 c2 S) (hm : n ≤ 100000) (hm2 : n2 ≤ 100000) (hpos : 0 < (valsL u (restE L b) (covL S b)).length) :
    Calls Tryz.prog 93 #[.string u, .slice a n c, .slice a2 n2 c2, .int .i64 b] w (AllPost w (valsL u (restE L b) (covL S b))) := by
  have HRL := Lib.hid (fun W (h : Below w.heap.size w W) => hisRestrictO_any _ L a n c b W (hl.same h) hm)
  have HRS := Lib.hid (fun W (h : Below w.heap.size w W) => hisRestrictO_any _ S a2 n2 c2 b W (hs.same h) hm2)
  have hrl : (restE L b).length ≤ n := by rw [← hl.length]; exact List.length_filter_le _ _
  have hrs : (restE S b).length ≤ n2 := by rw [← hs.length]; exact List.length_filter_le _ _
  have HCV := Lib.hid (show covL S b = (opsE (restE S b) (restE S b).length).filter cvP from rfl)
  unfold AllPost
  unfold OVPost at HRL HRS
  generalize restE L b = A at *
  generalize restE S b = R at *
  generalize covL S b = C at *
  have HVE := Lib.hid (vals_eq u A C)
  generalize valsL u A C = VL at *
  have K := (Env.start w).al (.cells #[.slice a n c] 23)
  clear hl hs
  go_enter Tryz.func93, Tryz.ntmps93
  have cL := cell_of_row _ _ 0 _ _ _ (K.get 0 rfl)
  have fL := K.free 0 rfl 0
  go_upto_region 2 with (first
    | (go_at_call 79; ((with_reducible refine (HRL.out _ K.hb).mono ?_); rintro r9 w2 ⟨v9, rfl, ⟨mA, ho⟩, h9⟩; replace K := (K.got h9 ho).1; clear h9 ho HRL cL fL; obtain ⟨aA, cA, rfl, -⟩ := K.any vrOk 0 rfl; have cL := cell_of_row _ _ 0 _ _ _ (K.get 1 rfl); have fL := K.free 1 rfl 0)))
  have K9 := K.put1 1 rfl (cs' := #[.slice aA mA cA]) 0 (.slice aA mA cA) rfl rfl
  simp only [List.set] at K9
  clear K cL fL
  have K := K9
  clear K9
  have hmA := own_len vrOk K 0 rfl
  obtain ⟨w3, hw3⟩ := K.name
  rw [← hw3] at K ⊢
  clear hw3
  go_upto_region 3 with (first
    | (go_at_call 79; ((with_reducible refine (HRS.out _ K.hb).mono ?_); rintro r9 w4 ⟨v9, rfl, ⟨mR, ho⟩, h9⟩; replace K := (K.got h9 ho).1; clear h9 ho HRS; obtain ⟨aR, cR, rfl, lR⟩ := K.any vrOk 0 rfl; have hmR := own_len vrOk K 0 rfl; have HA1 := Lib.hid (durAskA1_any _ R aR mR cR cvP w4 lR (by omega) (fun W e _ => durAlw1_any e W)); rw [show (opsE R mR).filter cvP = C from by rw [← hmR]; exact HCV.out.symm] at HA1; unfold OVPost at HA1; clear lR))
    | (go_at_call 116; ((with_reducible refine HA1.out.mono ?_); rintro r9 w5 ⟨v9, rfl, ⟨mC, ho⟩, h9⟩; replace K := (K.got h9 ho).1; clear h9 ho HA1; obtain ⟨aC, cC, rfl, -⟩ := K.any vrOk 0 rfl)))
  replace K := K.al (.cells #[.slice aC mC cC] 23)
  obtain ⟨gC, hgC⟩ : ∃ g, w5.heap.size = g := ⟨_, rfl⟩
  rw [hgC] at K
  simp only [hgC]
  generalize w5.alloc (.cells #[.slice aC mC cC] 23) = w6 at *
  have K9 := K.sub (T' := [Env.lst VR (.slice aA mA cA) mA A, .box w.heap.size (.cells #[.slice aA mA cA] 23 (0, 0)), Env.lst VR (.slice aC mC cC) mC C, .box gC (.cells #[.slice aC mC cC] 23 (0, 0))]) [3, 4, 1, 0] rfl (by simp) (by simp)
  clear K hgC HCV
  have K := K9
  clear K9
  have hmC := own_len vrOk K 2 rfl
  obtain ⟨_, _, eA, lA⟩ := K.any vrOk 0 rfl
  obtain ⟨rfl, -, rfl⟩ := Value.slice.inj eA
  obtain ⟨_, _, eC, lC⟩ := K.any vrOk 2 rfl
  obtain ⟨rfl, -, rfl⟩ := Value.slice.inj eC
  have HA2 := Lib.hid (durAskA2_any _ A aA mA cA (lfP A C) w.heap.size gC w6 lA (by omega) (fun W e h => durAlw2_any e _ _ A C aA aC mA cA mC cC w.heap.size gC W (lA.same h) (lC.same h) (e_on h (K.get 1 rfl) (e_lt (K.get 1 rfl))) (e_on h (K.get 3 rfl) (e_lt (K.get 3 rfl)))))
  have hLL : (opsE A mA).filter (lfP A C) = leftL A C := by unfold leftL; rw [hmA]
  rw [hLL] at HA2
  unfold OVPost at HA2
  have hoA : (leftL A C).length ≤ mA := by rw [← hLL]; exact Nat.le_trans (List.length_filter_le _ _) (by rw [← calls_map, List.length_map]; exact calls_len A mA)
  generalize leftL A C = LL at *
  clear eA eC lA lC hLL
  have cL := cell_of_row _ _ 0 _ _ _ (K.get 1 rfl)
  go_upto_region 4 with (first
    | (go_at_call 116; ((with_reducible refine HA2.out.mono ?_); rintro r9 w7 ⟨v9, rfl, ⟨mL, ho⟩, h9⟩; replace K := (K.got h9 ho).1; clear h9 ho HA2 cL; obtain ⟨aL, cL', rfl, -⟩ := K.any vrOk 0 rfl)))
  have hmL := own_len vrOk K 0 rfl
  have hbase := base_len u C
  replace K := (K.nil SR).sub (T' := [Env.lst SR (.slice none 0 0) 0 [], Env.lst VR (.slice aL mL cL') mL LL, .box gC (.cells #[.slice aC mC cC] 23 (0, 0))]) [0, 1, 5] rfl (by simp) (by simp)
  have cC0 := cell_of_row _ _ 0 _ _ _ (K.get 2 rfl)
  go_upto_if 26 with fail
  go_cut [11] (fun x11 wx => Env w wx [Env.lst SR x11 (baseL u C).length (baseL u C), Env.lst VR (.slice aL mL cL') mL LL, .box gC (.cells #[.slice aC mC cC] 23 (0, 0))])
  case first =>
    by_cases h0 : mC = 0
    · have h0d : ((mC : Int) == 0) = true := by simp [h0]
      have hbe := Lib.hid (show baseL u C = [u] from if_pos (by omega))
      have KB := K.al (.cells (SR.c u).toArray SR.et)
      clear hbase
      go_wp2_with (first
        | (refine KB.apps_one srOk rfl (.tmp 27) (.tmp 29) rfl 1 0 rfl rfl (e := u) rfl rfl (by omega) ?_; intro g3 c3 w8 K8 _; simp only [List.set] at K8; simp only [Act.put, List.setIfInBounds_toArray, List.set_cons_zero, List.set_cons_succ]; clear KB K))
      go_meet
      rw [hbe.out]
      exact K8.tail
    · have h0d : ((mC : Int) == 0) = false := by rw [beq_eq_false_iff_ne]; omega
      have hbe := Lib.hid (show baseL u C = [] from if_neg (by omega))
      clear hbase
      go_wp2_with fail
      go_meet
      rw [hbe.out]
      exact K
  case rest =>
    clear K cC0
    have K := hcut
    clear hcut
    have hbb := base_len u C
    obtain ⟨nb, hnb⟩ : ∃ nb, (baseL u C).length = nb := ⟨_, rfl⟩
    rw [hnb] at K hbb
    clear hnb hbase
    have K0 := K.sub (T' := [Env.lst SR u11 nb (baseL u C), Env.lst VR (.slice aL mL cL') mL LL]) [0, 1] rfl (by simp) (by simp)
    rw [show baseL u C = baseL u C ++ (LL.take 0).map valB from by simp] at K0
    clear K
    have K := K0
    clear K0
    obtain ⟨wd, hwd⟩ := K.name
    rw [← hwd] at K ⊢
    clear hwd
    go_wp2_with fail
    go_loopw [11, 33] (fun x11 x33 wr => ∃ (j k : Nat) (uu : Value), x33 = .int .i64 (j : Int) ∧ j ≤ mL ∧ x11 = uu ∧ k ≤ j + 1 ∧ Env w wr [Env.lst SR uu k (baseL u C ++ (LL.take j).map valB), Env.lst VR (.slice aL mL cL') mL LL]) (fun _ x33 _ => mL - (intOf x33).toNat)
    case atStart => exact ⟨0, nb, _, rfl, by omega, rfl, by omega, K⟩
    case round =>
      clear K
      obtain ⟨j, k, uu, rfl, hj, rfl, hk, K⟩ := hrel
      by_cases hlt : j < mL
      · obtain ⟨_, _, eL, lL⟩ := K.any vrOk 1 rfl
        obtain ⟨rfl, -, rfl⟩ := Value.slice.inj eL
        obtain ⟨x, e, rfl, he, c0, c1, c2, c3, c4, c5, c6, c7⟩ := ev_at lL j hlt
        have hjI : (j : Int) < (mL : Int) := by omega
        have HQ := Lib.hid (base_next (u := u) (C := C) he)
        have HV := Lib.hid (fun W => durValue_any e.kind e.block e.data W)
        have hve : valK e.kind e.data = valB e := rfl
        rw [hve] at HV
        obtain ⟨er, eq, es, ek, eb, ed, ee, ex⟩ := e
        simp only at c0 c1 c2 c3 c4 c5 c6 c7 HV
        generalize valB ⟨er, eq, es, ek, eb, ed, ee, ex⟩ = vv at *
        clear he eL lL hve
        generalize baseL u C ++ (LL.take j).map valB = RX at *
        go_upto_region 10 with fail
        replace K := K.al (.cells #[.bool er, .int .i64 eq, .int .i64 es, .int .i64 ek, .int .i64 eb, .string ed, .int .i64 ee, .string ex] 55)
        obtain ⟨gx, hg⟩ : ∃ gx, wr.heap.size = gx := ⟨_, rfl⟩
        rw [hg] at K
        simp only [hg]
        generalize wr.alloc (.cells #[.bool er, .int .i64 eq, .int .i64 es, .int .i64 ek, .int .i64 eb, .string ed, .int .i64 ee, .string ex] 55) = w3 at *
        clear c0 c1 c2 c3 c4 c5 c6 c7 hg
        obtain ⟨c0, c1, c2, c3, c4, c5, c6, c7⟩ := ev_cells (K.get 0 rfl)
        go_wp2_with (first
          | (go_at_call 123; ((with_reducible refine (HV.out _).mono ?_); rintro r9 w4 ⟨rfl, h9⟩; replace K := K.on h9; clear h9; have KB := K.al (.cells (SR.c vv).toArray SR.et)))
          | (refine KB.apps_one srOk rfl (.tmp 37) (.tmp 41) rfl 2 0 rfl rfl (e := vv) rfl rfl (by omega) ?_; intro g3 c3' w5 K8 _; simp only [List.set] at K8; simp only [Act.put, List.setIfInBounds_toArray, List.set_cons_zero, List.set_cons_succ]; clear KB K))
        have K9 := K8.sub (T' := [Env.lst SR (Env.slv g3 (k + 1) c3') (k + 1) (RX ++ [vv]), Env.lst VR (.slice (some x) mL cL') mL LL]) [2, 3] rfl (by simp) (by simp)
        rw [← HQ.out] at K9
        go_roundw
        case rel => exact ⟨j + 1, k + 1, _, by go_num, by omega, rfl, by omega, K9⟩
        case measure => simp [intOf]; omega
      · obtain rfl : j = mL := by omega
        have hjI : ¬ (j : Int) < (j : Int) := by omega
        have hvv : baseL u C ++ (LL.take j).map valB = VL := by rw [← hmL]; exact HVE.out.symm
        rw [hvv] at K
        replace K := K.sub (T' := [Env.lst SR _ k VL]) [0] rfl (by simp) (by simp)
        have hkl := own_len srOk K 0 rfl
        obtain ⟨g, c', rfl⟩ := K.val srOk 0 rfl (by omega)
        have HSO := Lib.hid (sort_own K (by omega))
        have HCO := Lib.hid (fun W ML (K : Env w W [Env.lst SR (Env.slv g k c') k ML]) (hs : SortedS ML) => compact_own K (by omega) hs)
        clear hvv HVE hkl hpos
        go_wp2_with (first
          | (go_at_call 90; ((with_reducible refine HSO.out.mono ?_); rintro r9 w5 ⟨rfl, ML, K5, hs, hmem⟩; have HS5 := Lib.hid hs; have HM5 := Lib.hid hmem; clear hs hmem K; have K := K5; clear K5 HSO))
          | (go_at_call 91; ((with_reducible refine (HCO.out _ _ K HS5.out).mono ?_); rintro r9 w6 ⟨m, E, rfl, K6, ha, hme⟩; have HA := Lib.hid ha; have HE := Lib.hid hme; clear ha hme K; have K := K6; clear K6 HCO)))
        go_ret
        obtain ⟨ea, ec, e9, le⟩ := K.any srOk 0 rfl
        obtain ⟨rfl, -, rfl⟩ := Value.slice.inj e9
        exact ⟨_, _, _, E, rfl, le, K.hb, HA.out, fun x => by rw [HE.out x, HM5.out x]⟩
end Go.Proofs.YtnmhnjjehglcfaaGreat.Ents

/- The walks of the program's checkGiven, Allowed and Check of durable: all that the laws ask of it. -/
namespace Go.Proofs.YtnmhnjjehglcfaaGreat.Ents
open Go.RowKit Plan HisMath LinMath DurMath ModMath CmdMath Rws Env LayMath SrchM
/-- no value of a block -/
def dnobB (s : ByteArray) : Bool := !decide (s.size = 16)
set_option maxHeartbeats 8000000 in
set_option maxRecDepth 20000 in
theorem durNoB_any (s : ByteArray) (w : World) : Calls Tryz.prog 115 #[.string s] w fun r w' => r = .returned (.bool (!decide (s.size = 16))) ∧ Below w.heap.size w w' := by
  have hb := Below.refl w.heap.size w
  go_enter Tryz.func115, Tryz.ntmps115
  go_wp2_with fail
  go_ret
  exact ⟨ret_b (by by_cases h : s.size = 16 <;> simp [h] <;> omega), hb⟩
set_option maxHeartbeats 8000000 in
set_option maxRecDepth 20000 in
theorem durNobIndex_any (F : Nat → Prop) (B : List ByteArray) (a : Option Addr) (n c : Nat) (w : World) (hl : SList w F a n c B) :
    Calls Tryz.prog 70 #[.slice a n c, .func (.func 115) #[] #[]] w fun x w' => (∃ z : Int, x = .returned (.int .i64 z) ∧ decide (0 ≤ z) = B.any dnobB) ∧ Below w.heap.size w w' := by
  have hlen := hl.length
  have hcp := hl.cap
  unfold maxLen at hcp
  have HAT := Lib.hid (fun W (h : Below w.heap.size w W) i (hi : i < n) => str_at (hl.same h) i hi)
  have HK := Lib.hid (fun s W => durNoB_any s W)
  have HYES := Lib.hid (fun (j : Nat) (s : ByteArray) (h1 : B[j]? = some s) (h2 : dnobB s = true) => List.any_eq_true.2 ⟨s, List.mem_of_getElem? h1, h2⟩)
  have HNO := Lib.hid (fun (h : ∀ (i : Nat) s, i < n → B[i]? = some s → dnobB s = false) => (List.any_eq_false.2 fun s hs => by
    obtain ⟨i, hi⟩ := List.mem_iff_getElem?.1 hs
    rw [h i s (by rw [← hlen]; exact (List.getElem?_eq_some_iff.1 hi).1) hi]; decide : B.any dnobB = false))
  clear hl hlen
  generalize B.any dnobB = A at *
  go_enter Tryz.func70, Tryz.ntmps70
  go_wp2
  go_loopw [8] (fun x wr => ∃ j : Nat, x = .int .i64 (j : Int) ∧ j ≤ n ∧ RowKit.Hid (∀ (i : Nat) s, i < j → B[i]? = some s → dnobB s = false) ∧ Below w.heap.size w wr) (fun x _ => n - (intOf x).toNat)
  case atStart => exact ⟨0, rfl, by omega, Lib.hid (fun i _ hi => absurd hi (Nat.not_lt_zero _)), Below.refl _ _⟩
  case round =>
    obtain ⟨j, rfl, hj, hall, hb⟩ := hrel
    by_cases hlt : j < n
    · obtain ⟨x, s, rfl, hs, c0⟩ := HAT.out wr hb j hlt
      have hk := HK.out s wr
      have hjI : (j : Int) < (n : Int) := by omega
      have HE := Lib.hid hs
      cases hq : dnobB s with
      | true =>
        have HR := Lib.hid (HYES.out j _ HE.out hq)
        unfold dnobB at hq
        rw [hq] at hk
        clear hq hs HE
        have hk := Lib.hid hk
        go_wp2_with (first
          | (go_at_call 115; ((with_reducible refine hk.out.mono ?_); rintro e9 w1 ⟨rfl, h1⟩)))
        go_ret
        exact ⟨⟨_, rfl, by rw [HR.out]; simp⟩, hb.trans (h1.mono hb.size)⟩
      | false =>
        have HN : RowKit.Hid (∀ (i : Nat) s, i < j + 1 → B[i]? = some s → dnobB s = false) := Lib.hid (fun i x hi hx => by
          rcases Nat.lt_or_ge i j with h9 | h9
          · exact hall.out i x h9 hx
          · obtain rfl : i = j := by omega
            rw [HE.out] at hx
            cases hx
            exact hq)
        unfold dnobB at hq
        rw [hq] at hk
        clear hq hs HE
        have hk := Lib.hid hk
        go_wp2_with (first
          | (go_at_call 115; ((with_reducible refine hk.out.mono ?_); rintro e9 w1 ⟨rfl, h1⟩)))
        go_roundw
        case rel => exact ⟨j + 1, by go_num, by omega, HN, hb.trans (h1.mono hb.size)⟩
        case measure => simp [intOf]; omega
    · obtain rfl : j = n := by omega
      have hjI : ¬ (j : Int) < (j : Int) := by omega
      have HR := Lib.hid (HNO.out hall.out)
      go_wp2_with fail
      go_ret
      exact ⟨⟨_, rfl, by rw [HR.out]; decide⟩, hb⟩
set_option maxHeartbeats 8000000 in
set_option maxRecDepth 20000 in
theorem durNob_any (F : Nat → Prop) (B : List ByteArray) (a : Option Addr) (n c : Nat) (w : World) (hl : SList w F a n c B) :
    Calls Tryz.prog 37 #[.slice a n c, .func (.func 115) #[] #[]] w fun x w' => x = .returned (.bool (B.any dnobB)) ∧ Below w.heap.size w w' := by
  have HI := Lib.hid (durNobIndex_any F B a n c w hl)
  generalize B.any dnobB = A at *
  go_enter Tryz.func37, Tryz.ntmps37
  go_wp2_with (first
    | (go_at_call 70; ((with_reducible refine HI.out.mono ?_); rintro e9 w1 ⟨⟨z, rfl, hz⟩, h1⟩)))
  go_ret
  rw [← hz]
  exact ⟨rfl, h1⟩
set_option maxHeartbeats 8000000 in
set_option maxRecDepth 20000 in
theorem durIndexS_any (F : Nat → Prop) (X : List ByteArray) (v : ByteArray) (a : Option Addr) (n c : Nat) (w : World) (hl : SList w F a n c X) :
    Calls Tryz.prog 126 #[.slice a n c, .string v] w fun x w' => (∃ z : Int, x = .returned (.int .i64 z) ∧ decide (0 ≤ z) = X.any (eqB v)) ∧ Below w.heap.size w w' := by
  have hlen := hl.length
  have hcp := hl.cap
  unfold maxLen at hcp
  have HAT := Lib.hid (fun W (h : Below w.heap.size w W) i (hi : i < n) => str_at (hl.same h) i hi)
  have HYES := Lib.hid (fun (j : Nat) (s : ByteArray) (h1 : X[j]? = some s) (h2 : eqB v s = true) => List.any_eq_true.2 ⟨s, List.mem_of_getElem? h1, h2⟩)
  have HNO := Lib.hid (fun (h : ∀ (i : Nat) s, i < n → X[i]? = some s → eqB v s = false) => (List.any_eq_false.2 fun s hs => by
    obtain ⟨i, hi⟩ := List.mem_iff_getElem?.1 hs
    rw [h i s (by rw [← hlen]; exact (List.getElem?_eq_some_iff.1 hi).1) hi]; decide : X.any (eqB v) = false))
  clear hl hlen
  generalize X.any (eqB v) = A at *
  go_enter Tryz.func126, Tryz.ntmps126
  go_wp2
  go_loopw [8] (fun x wr => ∃ j : Nat, x = .int .i64 (j : Int) ∧ j ≤ n ∧ RowKit.Hid (∀ (i : Nat) s, i < j → X[i]? = some s → eqB v s = false) ∧ Below w.heap.size w wr) (fun x _ => n - (intOf x).toNat)
  case atStart => exact ⟨0, rfl, by omega, Lib.hid (fun i _ hi => absurd hi (Nat.not_lt_zero _)), Below.refl _ _⟩
  case round =>
    obtain ⟨j, rfl, hj, hall, hb⟩ := hrel
    by_cases hlt : j < n
    · obtain ⟨x, s, rfl, hs, c0⟩ := HAT.out wr hb j hlt
      have hjI : (j : Int) < (n : Int) := by omega
      have HE := Lib.hid hs
      have hvs : (v.toList == s.toList) = eqB v s := by
        by_cases hq : v = s
        · rw [hq]; simp [eqB]
        · rw [bal_ne hq]; symm; unfold eqB; rw [decide_eq_false_iff_not]; exact fun h => hq h.symm
      cases hq : eqB v s with
      | true =>
        have HR := Lib.hid (HYES.out j _ HE.out hq)
        rw [hq] at hvs
        clear hq hs HE
        go_wp2_with fail
        go_ret
        exact ⟨⟨_, rfl, by rw [HR.out]; simp⟩, hb⟩
      | false =>
        have HN : RowKit.Hid (∀ (i : Nat) s, i < j + 1 → X[i]? = some s → eqB v s = false) := Lib.hid (fun i x hi hx => by
          rcases Nat.lt_or_ge i j with h9 | h9
          · exact hall.out i x h9 hx
          · obtain rfl : i = j := by omega
            rw [HE.out] at hx
            cases hx
            exact hq)
        rw [hq] at hvs
        clear hq hs HE
        go_wp2_with fail
        go_roundw
        case rel => exact ⟨j + 1, by go_num, by omega, HN, hb⟩
        case measure => simp [intOf]; omega
    · obtain rfl : j = n := by omega
      have hjI : ¬ (j : Int) < (j : Int) := by omega
      have HR := Lib.hid (HNO.out hall.out)
      go_wp2_with fail
      go_ret
      exact ⟨⟨_, rfl, by rw [HR.out]; decide⟩, hb⟩
set_option maxHeartbeats 8000000 in
set_option maxRecDepth 20000 in
theorem durHas_any (F : Nat → Prop) (X : List ByteArray) (v : ByteArray) (a : Option Addr) (n c : Nat) (w : World) (hl : SList w F a n c X) :
    Calls Tryz.prog 95 #[.slice a n c, .string v] w fun x w' => x = .returned (.bool (X.any (eqB v))) ∧ Below w.heap.size w w' := by
  have HI := Lib.hid (durIndexS_any F X v a n c w hl)
  generalize X.any (eqB v) = A at *
  go_enter Tryz.func95, Tryz.ntmps95
  go_wp2_with (first
    | (go_at_call 126; ((with_reducible refine HI.out.mono ?_); rintro e9 w1 ⟨⟨z, rfl, hz⟩, h1⟩)))
  go_ret
  rw [← hz]
  exact ⟨rfl, h1⟩
theorem nob_sizes {B : List ByteArray} {L : List Ev} (h : checkE (B.length : Int) L = 0) : sizesE B L = if B.any dnobB then 2 else 0 := by
  unfold sizesE
  rw [if_neg (by omega)]
  have : B.any dnobB = !B.all (fun s => decide (s.size = 16)) := by
    rw [List.not_all_eq_any_not]
    rfl
  rw [this]
  cases B.all (fun s => decide (s.size = 16)) <;> rfl
set_option maxHeartbeats 8000000 in
set_option maxRecDepth 20000 in
theorem durGiven_any (F G : Nat → Prop) (B : List ByteArray) (L : List Ev) (a a2 : Option Addr) (n c m d : Nat) (w : World) (hl : SList w F a n c B) (hk : VList w G a2 m d L) :
    Calls Tryz.prog 92 #[.slice a n c, .slice a2 m d] w fun r w' => r = .returned (.int .i64 (sizesE B L)) ∧ Below w.heap.size w w' := by
  have hlen := hl.length
  have HC := Lib.hid (hisCheck_any G L (n : Int) a2 m d w hk)
  have HN := Lib.hid (fun W (h : Below w.heap.size w W) => durNob_any _ B a n c W (hl.same h))
  have HZ := Lib.hid (fun (h : checkE (n : Int) L = 0) => nob_sizes (B := B) (L := L) (by rw [hlen]; exact h))
  have HE := Lib.hid (fun (h : checkE (n : Int) L ≠ 0) => (show sizesE B L = checkE (n : Int) L by rw [sizes_err (by rw [hlen]; exact h), hlen]))
  generalize sizesE B L = R at *
  generalize checkE (n : Int) L = z at *
  generalize B.any dnobB = p at *
  clear hl hk hlen
  by_cases hz : z = 0
  · have hR := HZ.out hz
    subst hz
    cases p with
    | true =>
      obtain rfl : R = 2 := hR
      clear HZ HE
      go_enter Tryz.func92, Tryz.ntmps92
      go_wp2_with (first
        | (go_at_call 36; ((with_reducible refine HC.out.mono ?_); rintro r9 w1 ⟨rfl, hb⟩))
        | (go_at_call 37; ((with_reducible refine (HN.out _ hb).mono ?_); rintro r9 w2 ⟨rfl, h9⟩; replace hb := hb.trans (h9.mono hb.size); clear h9)))
      go_ret
      exact ⟨rfl, hb⟩
    | false =>
      obtain rfl : R = 0 := hR
      clear HZ HE
      go_enter Tryz.func92, Tryz.ntmps92
      go_wp2_with (first
        | (go_at_call 36; ((with_reducible refine HC.out.mono ?_); rintro r9 w1 ⟨rfl, hb⟩))
        | (go_at_call 37; ((with_reducible refine (HN.out _ hb).mono ?_); rintro r9 w2 ⟨rfl, h9⟩; replace hb := hb.trans (h9.mono hb.size); clear h9)))
      go_ret
      exact ⟨rfl, hb⟩
  · obtain rfl : R = z := HE.out hz
    have hzb : (R != 0) = true := by simpa using hz
    clear HZ HE
    go_enter Tryz.func92, Tryz.ntmps92
    go_wp2_with (first
      | (go_at_call 36; ((with_reducible refine HC.out.mono ?_); rintro r9 w1 ⟨rfl, hb⟩)))
    go_ret
    exact ⟨rfl, hb⟩
/-- what a block may be, of a history and blocks that are right -/
theorem durAll_any {B : List ByteArray} {L : List Ev} {i : Nat} {u : ByteArray} (h0 : sizesE B L = 0) (hu : B[i]? = some u) (F G : Nat → Prop) (a a2 : Option Addr) (n c c2 : Nat) (w : World) (hl : VList w F a n c L) (hs : VList w G a2 (ptP L) c2 (L.take (ptP L))) (hm : n ≤ 100000) :
    Calls Tryz.prog 93 #[.string u, .slice a n c, .slice a2 (ptP L) c2, .int .i64 (i : Int)] w (SPost w (fun _ => False) (allowE B L (i : Int))) := by
  have hR := sizes_right h0
  have hp := pt_small hR
  refine (durAllowed_any u F G L (L.take (ptP L)) a a2 n c (ptP L) c2 (i : Int) w hl hs hm (by have := hl.length; omega) (vals_pos hR _ _)).mono ?_
  rintro r w' ⟨ra, rn, rc, E, rfl, le, hb, ha, hm⟩
  obtain rfl := allow_vals h0 hu ha hm
  exact ⟨ra, rn, rc, rfl, le.mono fun b _ h => .inr h, hb⟩
set_option maxHeartbeats 8000000 in
set_option maxRecDepth 20000 in
theorem durPAllowed_any (F G : Nat → Prop) (B : List ByteArray) (L : List Ev) (b : Int) (a a2 : Option Addr) (n c m d : Nat) (w : World) (hl : SList w F a n c B) (hk : VList w G a2 m d L) (hm : m ≤ 100000) :
    Calls Tryz.prog 61 #[.slice a n c, .slice a2 m d, .int .i64 b] w (SPost w (fun _ => False) (allowE B L b)) := by
  have hlen := hl.length
  have hcp := hl.cap
  unfold maxLen at hcp
  have HG := Lib.hid (durGiven_any F G B L a a2 n c m d w hl hk)
  have HNONE := Lib.hid (fun (h : sizesE B L ≠ 0 ∨ b < 0 ∨ (n : Int) ≤ b) => allow_none (B := B) (L := L) (b := b) (by rw [hlen]; exact h))
  have K := Env.start w
  by_cases h0 : sizesE B L = 0
  · by_cases h1 : b < 0
    · have hE := HNONE.out (.inr (.inl h1))
      rw [h0] at HG
      rw [hE]
      unfold SPost
      clear hl hk HNONE hE h0
      have h1d : decide (b < 0) = true := decide_eq_true h1
      go_enter Tryz.func61, Tryz.ntmps61
      go_wp2_with (first
        | (go_at_call 92; ((with_reducible refine HG.out.mono ?_); rintro r9 w2 ⟨rfl, h9⟩; replace K := K.on h9; clear h9 HG)))
      go_ret
      exact ⟨none, 0, 0, rfl, TList.nil _ _, K.hb⟩
    · by_cases h2 : (n : Int) ≤ b
      · have hE := HNONE.out (.inr (.inr h2))
        rw [h0] at HG
        rw [hE]
        unfold SPost
        clear hl hk HNONE hE h0
        have h1d : decide (b < 0) = false := decide_eq_false h1
        have h2d : decide ((n : Int) ≤ b) = true := decide_eq_true h2
        have h2e : decide (b ≥ (n : Int)) = true := decide_eq_true h2
        go_enter Tryz.func61, Tryz.ntmps61
        go_wp2_with (first
          | (go_at_call 92; ((with_reducible refine HG.out.mono ?_); rintro r9 w2 ⟨rfl, h9⟩; replace K := K.on h9; clear h9 HG)))
        go_ret
        exact ⟨none, 0, 0, rfl, TList.nil _ _, K.hb⟩
      · obtain ⟨i, rfl⟩ : ∃ i : Nat, b = (i : Int) := ⟨b.toNat, by omega⟩
        have hin : i < n := by omega
        obtain ⟨x, u, rfl, hu, -⟩ := str_at hl i hin
        have HX := Lib.hid (fun W (h : Below w.heap.size w W) => (show W.cell? (x.add i) = some (.string u) from by
          obtain ⟨x9, s9, h3, h4, h5⟩ := str_at (hl.same h) i hin
          obtain rfl := Option.some.inj h3
          rw [hu] at h4
          obtain rfl := Option.some.inj h4
          exact h5))
        have hR := sizes_right h0
        have HF := Lib.hid (fun W (h : Below w.heap.size w W) => durFlushed_any _ L a2 m d W (hk.same h) hm hR)
        have HA := Lib.hid (fun W F2 a9 c9 (h : Below w.heap.size w W) (hs : VList W F2 a9 (ptP L) c9 (L.take (ptP L))) => durAll_any h0 hu _ F2 a2 a9 m d c9 W (hk.same h) hs hm)
        rw [h0] at HG
        unfold FlPost at HF
        unfold SPost at HA ⊢
        generalize allowE B L (i : Int) = E at *
        generalize ptP L = P at *
        clear hl hk HNONE hR hu h0
        have hiI : (i : Int) < (n : Int) := by omega
        have hi0 : (0 : Int) ≤ (i : Int) := by omega
        have h1d : decide ((i : Int) < 0) = false := decide_eq_false h1
        have h2d : decide ((n : Int) ≤ (i : Int)) = false := decide_eq_false h2
        have h2e : decide ((i : Int) ≥ (n : Int)) = false := decide_eq_false h2
        go_enter Tryz.func61, Tryz.ntmps61
        go_upto_region 3 with (first
          | (go_at_call 92; ((with_reducible refine HG.out.mono ?_); rintro r9 w2 ⟨rfl, h9⟩; replace K := K.on h9; clear h9 HG)))
        refine Plan.start (fun W => W.cell? (x.add i) = some (.string u)) [(0, true), (1, true), (2, true), (3, true), (4, true), (5, true), (7, true), (6, false), (8, false), (9, true)] (by kernel_rfl) (by kernel_rfl) (by kernel_rfl) (by kernel_rfl) (HX.out _ K.drew.hb) ?_
        simp only [List.map_cons, List.map_nil, List.getElem?_toArray, List.getElem?_cons_zero, List.getElem?_cons_succ]
        replace K := K.drew
        repeat (first | (refine Plan.take ?_ (by rfl) ?_ ?_; rotate_left; (· rintro w9 u0; go_simp; (try rw [if_neg (by omega)]); all_goals (with_reducible rfl)); simp only [Act.put, List.setIfInBounds_toArray, List.set_cons_zero, List.set_cons_succ]) | (refine Plan.pass (by rfl) ?_; simp only [Act.put, List.setIfInBounds_toArray, List.set_cons_zero, List.set_cons_succ]))
        refine Plan.call (by rfl) 94 _ ?_ (HF.out _ K.hb) ?_
        · go_simp
        rintro r9 w4 ⟨fa, fc, rfl, lf, h9⟩
        replace K := K.on h9
        clear h9
        refine ⟨_, rfl, HX.out _ K.hb, ?_⟩
        simp only [Act.put, List.setIfInBounds_toArray, List.set_cons_zero, List.set_cons_succ]
        repeat (first | (refine Plan.take ?_ (by rfl) ?_ ?_; rotate_left; (· rintro w9 u0; go_simp; (try rw [if_neg (by omega)]); all_goals (with_reducible rfl)); simp only [Act.put, List.setIfInBounds_toArray, List.set_cons_zero, List.set_cons_succ]) | (refine Plan.pass (by rfl) ?_; simp only [Act.put, List.setIfInBounds_toArray, List.set_cons_zero, List.set_cons_succ]))
        refine Plan.call (by rfl) 93 _ ?_ (HA.out _ _ _ _ K.hb lf) ?_
        · go_simp
        rintro r9 w5 ⟨ra, rn, rc, rfl, lr, h9⟩
        have hlo := K.hb.size
        replace K := K.on h9
        clear h9
        refine ⟨_, rfl, HX.out _ K.hb, ?_⟩
        simp only [Act.put, List.setIfInBounds_toArray, List.set_cons_zero, List.set_cons_succ]
        repeat (first | (refine Plan.take ?_ (by rfl) ?_ ?_; rotate_left; (· rintro w9 u0; go_simp; (try rw [if_neg (by omega)]); all_goals (with_reducible rfl)); simp only [Act.put, List.setIfInBounds_toArray, List.set_cons_zero, List.set_cons_succ]) | (refine Plan.pass (by rfl) ?_; simp only [Act.put, List.setIfInBounds_toArray, List.set_cons_zero, List.set_cons_succ]))
        refine Plan.ends ?_
        go_wp2_with fail
        go_ret
        exact ⟨ra, rn, rc, rfl, lr.mono (fun b _ h => .inr (Nat.le_trans hlo (h.resolve_left id))), K.hb⟩
  · have hE := HNONE.out (.inl h0)
    rw [hE]
    have h0b : (sizesE B L != 0) = true := by simpa using h0
    generalize sizesE B L = z at *
    unfold SPost
    clear hl hk HNONE hE
    go_enter Tryz.func61, Tryz.ntmps61
    go_wp2_with (first
      | (go_at_call 92; ((with_reducible refine HG.out.mono ?_); rintro r9 w2 ⟨rfl, h9⟩; replace K := K.on h9; clear h9 HG)))
    go_ret
    exact ⟨none, 0, 0, rfl, TList.nil _ _, K.hb⟩
set_option maxHeartbeats 8000000 in
set_option maxRecDepth 20000 in
theorem durPCheck_any (F G I : Nat → Prop) (B : List ByteArray) (L : List Ev) (X : List ByteArray) (a a2 a3 : Option Addr) (n c m d p q : Nat) (w : World) (hl : SList w F a n c B) (hk : VList w G a2 m d L) (hx : SList w I a3 p q X) (hm : m ≤ 100000) :
    Calls Tryz.prog 62 #[.slice a n c, .slice a2 m d, .slice a3 p q] w fun r w' => r = .returned (.int .i64 (durE B L X)) ∧ Below w.heap.size w w' := by
  have hlen := hl.length
  have hlx := hx.length
  have hxc := hx.cap
  unfold maxLen at hxc
  have HG := Lib.hid (durGiven_any F G B L a a2 n c m d w hl hk)
  have K := Env.start w
  by_cases h0 : sizesE B L = 0
  · by_cases hpn : p = n
    · subst hpn
      have HD3 := dur_is (X := X) h0 (by omega)
      have HYES := Lib.hid (fun (h : ∀ i, i < p → goodB B L X i = true) => (show durE B L X = 0 from by rw [HD3, hlen, good_all h]; rfl))
      have HNOT := Lib.hid (fun i (hi : i < p) (h : goodB B L X i = false) => (show durE B L X = 14 from by rw [HD3, hlen, good_not hi h]; rfl))
      have hR := sizes_right h0
      have HF := Lib.hid (fun W (h : Below w.heap.size w W) => durFlushed_any _ L a2 m d W (hk.same h) hm hR)
      have HBAT := Lib.hid (fun W (h : Below w.heap.size w W) i (hi : i < p) => str_at (hl.same h) i hi)
      have HXAT := Lib.hid (fun W (h : Below w.heap.size w W) i (hi : i < p) => str_at (hx.same h) i hi)
      have HA := Lib.hid (fun W F2 a9 c9 i u (hu : B[i]? = some u) (h : Below w.heap.size w W) (hs : VList W F2 a9 (ptP L) c9 (L.take (ptP L))) => durAll_any h0 hu _ F2 a2 a9 m d c9 W (hk.same h) hs hm)
      have HHS := Lib.hid (fun F2 Y v a9 n9 c9 W (h : SList W F2 a9 n9 c9 Y) => durHas_any F2 Y v a9 n9 c9 W h)
      rw [h0] at HG
      unfold FlPost at HF
      unfold SPost at HA
      generalize durE B L X = R at *
      clear hl hk hx HD3 hR h0 hlen hlx
      go_enter Tryz.func62, Tryz.ntmps62
      go_upto_region 7 with (first
        | (go_at_call 92; ((with_reducible refine HG.out.mono ?_); rintro r9 w2 ⟨rfl, h9⟩; replace K := K.on h9; clear h9 HG))
        | (go_at_call 94; ((with_reducible refine (HF.out _ K.hb).mono ?_); rintro r9 w3 ⟨fa, fc, rfl, lf, h9⟩; replace K := K.on h9; clear h9 HF)))
      obtain ⟨P, hP⟩ : ∃ P, ptP L = P := ⟨_, rfl⟩
      rw [hP] at HA lf
      simp only [hP]
      clear hP
      have HB := Lib.hid K.hb
      have HLF := Lib.hid (fun W (h : Below w3.heap.size w3 W) => lf.same h)
      have hb := Below.refl w3.heap.size w3
      clear K lf
      go_wp2_with fail
      go_loopw [26] (fun x wr => ∃ i : Nat, x = .int .i64 (i : Int) ∧ i ≤ p ∧ RowKit.Hid (∀ j, j < i → goodB B L X j = true) ∧ Below w3.heap.size w3 wr) (fun x _ => p - (intOf x).toNat)
      case atStart => exact ⟨0, rfl, by omega, Lib.hid (fun j hj => absurd hj (Nat.not_lt_zero _)), hb⟩
      case round =>
        clear hb
        obtain ⟨i, rfl, hi, HGD, hb⟩ := hrel
        by_cases hlt : i < p
        · obtain ⟨x1, u, rfl, hu, c1⟩ := HBAT.out wr (HB.out.trans (hb.mono HB.out.size)) i hlt
          obtain ⟨x3, s, rfl, hs, c3⟩ := HXAT.out wr (HB.out.trans (hb.mono HB.out.size)) i hlt
          have hiI : (i : Int) < (p : Int) := by omega
          have hi0 : (0 : Int) ≤ (i : Int) := by omega
          have HGI := Lib.hid (show goodB B L X i = (allowE B L (i : Int)).any (eqB s) from by unfold goodB; rw [hs])
          have HAI := Lib.hid (fun W F2 a9 c9 h hs => HA.out W F2 a9 c9 i u hu h hs)
          generalize allowE B L (i : Int) = YY at *
          clear hs hu
          cases hq : YY.any (eqB s) with
          | true =>
            have HG2 : RowKit.Hid (∀ j, j < i + 1 → goodB B L X j = true) := Lib.hid (fun j hj => by
              rcases Nat.lt_or_ge j i with h9 | h9
              · exact HGD.out j h9
              · obtain rfl : j = i := by omega
                rw [HGI.out, hq])
            have HHQ := Lib.hid (fun F2 a9 n9 c9 W h => HHS.out F2 YY s a9 n9 c9 W h)
            rw [hq] at HHQ
            clear hq
            go_wp2_with (first
              | (go_at_call 93; ((with_reducible refine (HAI.out _ _ _ _ (HB.out.trans (hb.mono HB.out.size)) (HLF.out _ hb)).mono ?_); rintro r9 w5 ⟨ra, rn, rc, rfl, lr, h9⟩; replace hb := hb.trans (h9.mono hb.size); clear h9))
              | (go_at_call 95; ((with_reducible refine (HHQ.out _ _ _ _ _ lr).mono ?_); rintro r9 w6 ⟨rfl, h9⟩; replace hb := hb.trans (h9.mono hb.size); clear h9)))
            go_roundw
            case rel => exact ⟨i + 1, by go_num, by omega, HG2, hb⟩
            case measure => simp [intOf]; omega
          | false =>
            have HR := Lib.hid (HNOT.out i hlt (by rw [HGI.out, hq]))
            have HHQ := Lib.hid (fun F2 a9 n9 c9 W h => HHS.out F2 YY s a9 n9 c9 W h)
            rw [hq] at HHQ
            clear hq
            go_wp2_with (first
              | (go_at_call 93; ((with_reducible refine (HAI.out _ _ _ _ (HB.out.trans (hb.mono HB.out.size)) (HLF.out _ hb)).mono ?_); rintro r9 w5 ⟨ra, rn, rc, rfl, lr, h9⟩; replace hb := hb.trans (h9.mono hb.size); clear h9))
              | (go_at_call 95; ((with_reducible refine (HHQ.out _ _ _ _ _ lr).mono ?_); rintro r9 w6 ⟨rfl, h9⟩; replace hb := hb.trans (h9.mono hb.size); clear h9)))
            go_ret
            exact ⟨r_i HR.out.symm, HB.out.trans (hb.mono HB.out.size)⟩
        · obtain rfl : i = p := by omega
          have hiI : ¬ (i : Int) < (i : Int) := by omega
          have HR := Lib.hid (HYES.out HGD.out)
          go_wp2_with fail
          go_ret
          exact ⟨r_i HR.out.symm, HB.out.trans (hb.mono HB.out.size)⟩
    · have hE : durE B L X = 2 := by unfold durE; rw [if_neg (by omega), if_pos (by omega)]
      rw [hE]
      rw [h0] at HG
      have hpb : ((p : Int) != (n : Int)) = true := by simp; omega
      clear hl hk hx hE h0 hlen hlx
      go_enter Tryz.func62, Tryz.ntmps62
      go_wp2_with (first
        | (go_at_call 92; ((with_reducible refine HG.out.mono ?_); rintro r9 w2 ⟨rfl, h9⟩; replace K := K.on h9; clear h9 HG)))
      go_ret
      exact ⟨rfl, K.hb⟩
  · have hE : durE B L X = sizesE B L := by unfold durE; rw [if_pos h0]
    rw [hE]
    have h0b : (sizesE B L != 0) = true := by simpa using h0
    generalize sizesE B L = z at *
    clear hl hk hx hE hlen hlx
    go_enter Tryz.func62, Tryz.ntmps62
    go_wp2_with (first
      | (go_at_call 92; ((with_reducible refine HG.out.mono ?_); rintro r9 w2 ⟨rfl, h9⟩; replace K := K.on h9; clear h9 HG)))
    go_ret
    exact ⟨rfl, K.hb⟩
theorem durableOk : DurableOk where
  allowed := fun F G B L b a a2 n c m d w hl hk _ hm => durPAllowed_any F G B L b a a2 n c m d w hl hk hm
  check := fun F G I B L X a a2 a3 n c m d p q w hl hk hx _ hm _ => durPCheck_any F G I B L X a a2 a3 n c m d p q w hl hk hx hm
end Go.Proofs.YtnmhnjjehglcfaaGreat.Ents
