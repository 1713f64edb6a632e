/- Texts that belong together, part 25. -/
import Derived.Test.YtnmhnjjehglcfaaGreatPack24

/- The walk of the document's Same of lists of events, for equal lists. -/
namespace Go.Proofs.YtnmhnjjehglcfaaGreat.Ents
open Go.RowKit Plan HisMath Rws Env
end Go.Proofs.YtnmhnjjehglcfaaGreat.Ents

/- What the laws ask of the program's histories; the walk of the law's agree. -/
namespace Go.Proofs.YtnmhnjjehglcfaaGreat.Ents
open Go.RowKit Plan HisMath Rws Env LayMath
end Go.Proofs.YtnmhnjjehglcfaaGreat.Ents

/- The walks of the program's place, Before and Restrict of histories. -/
namespace Go.Proofs.YtnmhnjjehglcfaaGreat.HisMath
end Go.Proofs.YtnmhnjjehglcfaaGreat.HisMath
namespace Go.Proofs.YtnmhnjjehglcfaaGreat.Ents
open Go.RowKit Plan HisMath Rws Env LayMath CmdMath
set_option maxHeartbeats 8000000 in
set_option maxRecDepth 20000 in
theorem hisRestrictO_any (F : Nat → Prop) (L : List Ev) (a : Option Addr) (n c : Nat) (b : Int) (w : World) (hl : VList w F a n c L) (hm : n ≤ 100000) :
    Calls Tryz.prog 79 #[.slice a n c, .int .i64 b] w (OVPost w (restE L b)) := by
  have hlen := hl.length
  have HAT := Lib.hid (fun W (h : Below w.heap.size w W) i (hi : i < n) => ev_at (hl.same h) i hi)
  have HTAKE := Lib.hid (show restE (L.take n) b = restE L b by rw [List.take_of_length_le (by omega)])
  have HNM := Lib.hid (fun k c s W => hisNames_any k c b s W)
  have K := (Env.start w).nil VR
  unfold OVPost
  clear hl hlen
  go_enter Tryz.func79, Tryz.ntmps79
  go_wp2_with fail
  go_loopw [5, 10] (fun v x wr => ∃ (j k : Nat) (u : Value), x = .int .i64 (j : Int) ∧ j ≤ n ∧ v = u ∧ k ≤ j ∧ Env w wr [Env.lst VR u k (restE (L.take j) b)]) (fun _ x _ => n - (intOf x).toNat)
  case atStart => exact ⟨0, 0, _, rfl, by omega, rfl, by omega, K⟩
  case round =>
    clear K
    obtain ⟨j, k, u, rfl, hj, rfl, hk, K⟩ := hrel
    by_cases hlt : j < n
    · obtain ⟨x, e, rfl, he, c0, c1, c2, c3, c4, c5, c6, c7⟩ := HAT.out wr K.hb j hlt
      have hjI : (j : Int) < (n : Int) := by omega
      have HQ := Lib.hid (restE_next (b := b) he)
      obtain ⟨er, eq, es, ek, eb, ed, ee, ex⟩ := e
      simp only at c0 c1 c2 c3 c4 c5 c6 c7
      have HB := Lib.hid (HNM.out ek eb ed)
      have hpl : (decide (eb = b) && (decide (ek = 1) || decide (ek = 2) || decide (ek = 3))) = restB b ⟨er, eq, es, ek, eb, ed, ee, ex⟩ := rfl
      rw [hpl] at HB
      clear he hpl
      generalize restE (L.take j) b = RX at *
      go_upto_region 5 with fail
      replace K := K.al (.cells #[.bool er, .int .i64 eq, .int .i64 es, .int .i64 ek, .int .i64 eb, .string ed, .int .i64 ee, .string ex] 55)
      obtain ⟨g, hg⟩ : ∃ g, wr.heap.size = g := ⟨_, rfl⟩
      rw [hg] at K
      simp only [hg]
      generalize wr.alloc (.cells #[.bool er, .int .i64 eq, .int .i64 es, .int .i64 ek, .int .i64 eb, .string ed, .int .i64 ee, .string ex] 55) = w1 at *
      clear c0 c1 c2 c3 c4 c5 c6 c7 hg
      obtain ⟨c0, c1, c2, c3, c4, c5, c6, c7⟩ := ev_cells (K.get 0 rfl)
      by_cases hq : restB b ⟨er, eq, es, ek, eb, ed, ee, ex⟩ = true
      · replace HQ := Lib.hid (HQ.out.1 hq)
        rw [hq] at HB
        clear hq
        go_upto_region 6 with (first
          | (go_at_call 103; ((with_reducible refine (HB.out _).mono ?_); rintro r9 w2 ⟨rfl, h9⟩; replace K := K.on h9; clear h9)))
        have KB := K.al (.cells #[.bool er, .int .i64 eq, .int .i64 es, .int .i64 ek, .int .i64 eb, .string ed, .int .i64 ee, .string ex] 55)
        go_wp2_with (first
          | ((with_reducible refine Plan.load_lit 55 (.tmp 7) g ?_ (K.get 0 rfl) Tryz.underlying55 ?_ ?_ ?_); (· rfl); (· rfl); (· exact ev_info); simp only [Act.put, List.setIfInBounds_toArray, List.set_cons_zero, List.set_cons_succ])
          | (refine KB.apps_one vrOk rfl (.tmp 18) (.tmp 20) rfl 2 0 rfl rfl (e := ⟨er, eq, es, ek, eb, ed, ee, ex⟩) rfl rfl (by omega) ?_; intro g3 c3 w3 K8 k8; simp only [List.set] at K8 k8; simp only [Act.put, List.setIfInBounds_toArray, List.set_cons_zero, List.set_cons_succ]; clear KB K k8))
        have K9 := K8.sub (T' := [Env.lst VR (Env.slv g3 (k + 1) c3) (k + 1) (RX ++ [⟨er, eq, es, ek, eb, ed, ee, ex⟩])]) [2] rfl (by simp) (by simp)
        rw [← HQ.out] at K9
        go_roundw
        case rel => exact ⟨j + 1, k + 1, _, by go_num, by omega, rfl, by omega, K9⟩
        case measure => simp [intOf]; omega
      · replace hq : restB b ⟨er, eq, es, ek, eb, ed, ee, ex⟩ = false := by simpa using hq
        replace HQ := HQ.out.2 hq
        rw [hq] at HB
        replace K := K.sub (T' := [Env.lst VR _ k RX]) [1] rfl (by simp) (by simp)
        rw [← HQ] at K
        clear HQ hq
        go_wp2_with (first
          | (go_at_call 103; ((with_reducible refine (HB.out _).mono ?_); rintro r9 w2 ⟨rfl, h9⟩; replace K := K.on h9; clear h9)))
        go_roundw
        case rel => exact ⟨j + 1, k, _, by go_num, by omega, rfl, by omega, K⟩
        case measure => simp [intOf]; omega
    · obtain rfl : j = n := by omega
      have hjI : ¬ (j : Int) < (j : Int) := by omega
      rw [HTAKE.out] at K
      go_wp2_with fail
      go_ret
      exact ⟨_, rfl, ⟨_, K.own 0 rfl⟩, K.hb⟩
theorem hisRestrict_any (F : Nat → Prop) (L : List Ev) (a : Option Addr) (n c : Nat) (b : Int) (w : World) (hl : VList w F a n c L) (hm : n ≤ 100000) :
    Calls Tryz.prog 79 #[.slice a n c, .int .i64 b] w (VPost w (restE L b)) :=
  (hisRestrictO_any F L a n c b w hl hm).mono fun _ _ h => own_vpost h
end Go.Proofs.YtnmhnjjehglcfaaGreat.Ents

/- The walks of the document's Run and Same of blocks. -/
namespace Go.Proofs.YtnmhnjjehglcfaaGreat.ModMath
theorem runB_next {B : List ByteArray} {l : List Cmd} {j : Nat} {x : Cmd} (h : l[j]? = some x) : runB B (l.take (j + 1)) = applyB (runB B (l.take j)) x := by
  rw [List.take_succ_eq_append_getElem (List.getElem?_eq_some_iff.1 h).1, runB_snoc, (List.getElem?_eq_some_iff.1 h).2]
theorem runR_next {B : List ByteArray} {l : List Cmd} {j : Nat} {x : Cmd} (h : l[j]? = some x) : runR B (l.take (j + 1)) = runR B (l.take j) ++ [applyR (runB B (l.take j)) x] := by
  rw [List.take_succ_eq_append_getElem (List.getElem?_eq_some_iff.1 h).1, runR_snoc, (List.getElem?_eq_some_iff.1 h).2]
end Go.Proofs.YtnmhnjjehglcfaaGreat.ModMath
namespace Go.Proofs.YtnmhnjjehglcfaaGreat.Ents
open Go.RowKit Plan ModMath CmdMath Rws Env LayMath
def RPost (w : World) (F : Nat → Prop) (L : List ByteArray) (X : List Res) (r : Ending) (w' : World) : Prop :=
  ∃ a n c b m d, r = .returned (.tuple #[.slice a n c, .slice b m d]) ∧ SList w' (fun b => F b ∨ w.heap.size ≤ b) a n c L ∧ OList w' (fun b => F b ∨ w.heap.size ≤ b) b m d X ∧ Below w.heap.size w w'
set_option maxHeartbeats 8000000 in
set_option maxRecDepth 20000 in
theorem refBSame_any (F G : Nat → Prop) (B : List ByteArray) (a b : Option Addr) (n c m d : Nat) (w : World) (hl : SList w F a n c B) (hk : SList w G b m d B) :
    Calls Tryz.prog 21 #[.slice a n c, .slice b m d] w fun r w' => r = .returned (.bool true) ∧ Below w.heap.size w w' := by
  have hlen := hl.length
  obtain rfl : n = m := hlen.symm.trans hk.length
  have hmx : n ≤ maxLen := Nat.le_trans hl.cap.1 hl.cap.2
  unfold maxLen at hmx
  have HA := Lib.hid (fun W (h : Below w.heap.size w W) i (hi : i < n) => str_at (hl.same h) i hi)
  have HB := Lib.hid (fun W (h : Below w.heap.size w W) i (hi : i < n) => str_at (hk.same h) i hi)
  have hb := Below.refl w.heap.size w
  clear hl hk
  go_enter Tryz.func21, Tryz.ntmps21
  go_wp2_with fail
  go_loopw [5] (fun x wr => ∃ j : Nat, x = .int .i64 (j : Int) ∧ j ≤ n ∧ Below w.heap.size w wr) (fun x _ => n - (intOf x).toNat)
  case atStart => exact ⟨0, rfl, by omega, hb⟩
  case round =>
    clear hb
    obtain ⟨j, rfl, hj, hb⟩ := hrel
    by_cases hlt : j < n
    · obtain ⟨x, e, rfl, he, hat⟩ := HA.out wr hb j hlt
      obtain ⟨y, f, rfl, hf, haf⟩ := HB.out wr hb j hlt
      rw [he] at hf
      obtain rfl := Option.some.inj hf
      have hjI : (j : Int) < (n : Int) := by omega
      clear hf he
      go_upto_region 6 with fail
      refine Plan.start (fun W => W.cell? (x.add j) = some (.string e) ∧ W.cell? (y.add j) = some (.string e)) [(0, true), (1, true), (2, true), (3, true), (4, true), (5, true), (6, true), (7, true), (8, true)] (by kernel_rfl) (by kernel_rfl) (by kernel_rfl) (by kernel_rfl) ⟨hat, haf⟩ ?_
      simp only [List.map_cons, List.map_nil, List.getElem?_toArray, List.getElem?_cons_zero, List.getElem?_cons_succ]
      repeat (first | (refine Plan.take ?_ (by rfl) ?_ ?_; rotate_left; (· rintro w9 ⟨u0, u1⟩; go_simp; (try rw [if_neg (by omega)]); all_goals (with_reducible rfl)); simp only [Act.put, List.setIfInBounds_toArray, List.set_cons_zero, List.set_cons_succ]) | (refine Plan.pass (by rfl) ?_; simp only [Act.put, List.setIfInBounds_toArray, List.set_cons_zero, List.set_cons_succ]))
      refine Plan.ends ?_
      replace hb := hb.drew
      clear hat haf
      go_wp2_with fail
      go_roundw
      case rel => exact ⟨j + 1, by go_num, by omega, hb⟩
      case measure => simp [intOf]; omega
    · obtain rfl : j = n := by omega
      go_wp2_with fail
      go_ret
      exact ⟨rfl, hb⟩
end Go.Proofs.YtnmhnjjehglcfaaGreat.Ents
