/- Texts that belong together, part 12. -/
import Derived.Test.YtkamadeekkccgaaPack11

/- The walks of the program's isRight and Check of histories: all that the laws ask of the program. -/
namespace Go.Proofs.Ytkamadeekkccgaa.Ents
open Go.RowKit Plan HisMath Rws Env LayMath CmdMath
theorem evm_und : Try.prog.underlying 63 = some (.map 3 36) := by kernel_rfl
abbrev zeroEv : Value := .agg #[.bool false, .int .i64 0, .int .i64 0, .int .i64 0, .int .i64 0, .string ⟨#[]⟩, .int .i64 0, .string ⟨#[]⟩]
theorem evm_zero (W : World) : (zeroValue 36).run Try.prog W = .ok zeroEv W := by kernel_rfl
def lastF (L : List Ev) (j : Nat) : Int → Option Value := fun z => (lastE L j z).map evV
theorem lastF_start (L : List Ev) : lastF L 0 = fun _ => none := by funext z; simp [lastF, lastE]
theorem lastF_next {L : List Ev} {j : Nat} {e : Ev} (he : L[j]? = some e) : lastF L (j + 1) = putF (lastF L j) e.serial (evV e) := by
  funext z
  unfold lastF putF
  rw [last_next he]
  by_cases hz : e.serial = z
  · subst hz; simp
  · have hz2 : ¬ z = e.serial := fun h => hz h.symm
    simp [hz, hz2]
set_option maxHeartbeats 8000000 in
set_option maxRecDepth 20000 in
theorem hisRight_any (F : Nat → Prop) (L : List Ev) (a : Option Addr) (n c : Nat) (w : World) (hl : VList w F a n c L) :
    Calls Try.prog 29 #[.slice a n c] w fun r w' => r = .returned (.bool (rightsB L)) ∧ Below w.heap.size w w' := by
  have hlen := hl.length
  have hcp := hl.cap
  unfold maxLen at hcp
  have HAT := Lib.hid (fun W (h : Below w.heap.size w W) i (hi : i < n) => ev_at (hl.same h) i hi)
  have hmm := fun W => (show (Instr.makeMap 63 none).run Try.prog W = .ok (.map (some W.heap.size)) (W.alloc (.map #[] 0)) from rfl)
  have K := env_mnew (Env.start w)
  rw [← lastF_start L] at K
  have HR0 := Lib.hid (right_start L)
  have HALL := Lib.hid (fun (h : Right (L.take n)) => right_all h hlen.symm)
  have HLESS := Lib.hid (fun j x (h1 : L[j]? = some x) (h2 : rightB (L.take j) x = false) => right_less h1 h2)
  generalize rightsB L = V at *
  clear hl hlen
  go_enter Try.func29, Try.ntmps29
  go_wp2_with fail
  clear hmm
  generalize w.alloc (.map #[] 0) = w0 at *
  generalize hmb : w.heap.size = mb at K ⊢
  have K := (hmb ▸ K : Env w w0 [imapT w.heap.size (lastF L 0)])
  subst hmb
  go_loopw [11] (fun x wr => ∃ (j : Nat), x = .int .i64 (j : Int) ∧ j ≤ n ∧ RowKit.Hid (Right (L.take j)) ∧ Env w wr [imapT w.heap.size (lastF L j)]) (fun x _ => n - (intOf x).toNat)
  case atStart => exact ⟨0, rfl, by omega, HR0, K⟩
  case round =>
    clear K HR0
    obtain ⟨j, rfl, hj, HR, K⟩ := hrel
    by_cases hlt : j < n
    · obtain ⟨x, e, rfl, he, c0, c1, c2, c3, c4, c5, c6, c7⟩ := HAT.out wr K.hb j hlt
      have hjI : (j : Int) < (n : Int) := by omega
      have HP := Lib.hid (fun W => hisPossible_any e W)
      have HCL := Lib.hid (fun W => hisCall_any e W)
      have hnext := lastF_next he
      have HB := Lib.hid (HLESS.out j e he)
      have HG := Lib.hid (fun h => right_more HR.out he h)
      have hst := step_right HR.out he
      generalize rightB (L.take j) e = rb at *
      have hla : lastF L j e.serial = (lastE L j e.serial).map evV := rfl
      simp only [stepB] at hst
      generalize possB e = pb at *
      obtain ⟨er, eq, es, ek, eb, ed, ee, ex⟩ := e
      simp only at c0 c1 c2 c3 c4 c5 c6 c7 hla hst hnext
      clear he HR
      have hlk := (imap_look evm_und evm_zero (env_mget (K.al (.cells #[.bool er, .int .i64 eq, .int .i64 es, .int .i64 ek, .int .i64 eb, .string ed, .int .i64 ee, .string ex] 36)) 1 rfl) es).1
      rw [hla] at hlk
      clear hla
      go_upto_region 5 with fail
      replace K := K.al (.cells #[.bool er, .int .i64 eq, .int .i64 es, .int .i64 ek, .int .i64 eb, .string ed, .int .i64 ee, .string ex] 36)
      obtain ⟨g, hg⟩ : ∃ g, wr.heap.size = g := ⟨_, rfl⟩
      rw [hg] at K
      simp only [hg]
      generalize wr.alloc (.cells #[.bool er, .int .i64 eq, .int .i64 es, .int .i64 ek, .int .i64 eb, .string ed, .int .i64 ee, .string ex] 36) = w1 at *
      clear c0 c1 c2 c3 c4 c5 c6 c7 hg
      obtain ⟨c0, c1, c2, c3, c4, c5, c6, c7⟩ := ev_cells (K.get 0 rfl)
      cases hle : lastE L j es with
      | none =>
        rw [hle] at hlk hst
        simp only [Option.map_none, Option.getD_none, Option.isSome_none] at hlk
        go_upto_region 6 with fail
        clear hlk c0 c1 c2 c3 c4 c5 c6 c7 hle
        replace K := K.al (.cells #[.bool false, .int .i64 0, .int .i64 0, .int .i64 0, .int .i64 0, .string ⟨#[]⟩, .int .i64 0, .string ⟨#[]⟩] 36)
        generalize w1.alloc (.cells #[.bool false, .int .i64 0, .int .i64 0, .int .i64 0, .int .i64 0, .string ⟨#[]⟩, .int .i64 0, .string ⟨#[]⟩] 36) = w2 at *
        generalize w1.heap.size = g2 at *
        obtain ⟨c0, c1, c2, c3, c4, c5, c6, c7⟩ := ev_cells (K.get 1 rfl)
        cases pb with
        | false =>
          have HBAD := Lib.hid (HB.out (by rw [← hst]; rfl))
          clear hst HB HG hnext HCL
          go_wp2_with (first
            | (go_at_call 38; ((with_reducible refine (HP.out _).mono ?_); rintro r9 w5 ⟨rfl, h9⟩; replace K := K.on h9; clear h9 c0 c1 c2 c3 c4 c5 c6 c7; obtain ⟨c0, c1, c2, c3, c4, c5, c6, c7⟩ := ev_cells (K.get 1 rfl)))
            | ((with_reducible refine Plan.load_lit 36 (.tmp 5) g ?_ (K.get 1 rfl) Try.underlying36 ?_ ?_ ?_); (· rfl); (· rfl); (· exact ev_info); simp only [Act.put, List.setIfInBounds_toArray, List.set_cons_zero, List.set_cons_succ]))
          go_ret
          exact ⟨ret_b HBAD.out.symm, K.hb⟩
        | true =>
          cases er with
          | true =>
            have HBAD := Lib.hid (HB.out (by rw [← hst]; rfl))
            clear hst HB HG hnext HCL
            go_wp2_with (first
              | (go_at_call 38; ((with_reducible refine (HP.out _).mono ?_); rintro r9 w5 ⟨rfl, h9⟩; replace K := K.on h9; clear h9 c0 c1 c2 c3 c4 c5 c6 c7; obtain ⟨c0, c1, c2, c3, c4, c5, c6, c7⟩ := ev_cells (K.get 1 rfl)))
              | ((with_reducible refine Plan.load_lit 36 (.tmp 5) g ?_ (K.get 1 rfl) Try.underlying36 ?_ ?_ ?_); (· rfl); (· rfl); (· exact ev_info); simp only [Act.put, List.setIfInBounds_toArray, List.set_cons_zero, List.set_cons_succ]))
            go_ret
            exact ⟨ret_b HBAD.out.symm, K.hb⟩
          | false =>
            have HGO := Lib.hid (HG.out (by rw [← hst]; rfl))
            clear hst HB HG HCL
            go_upto_region 8 with (first
              | (go_at_call 38; ((with_reducible refine (HP.out _).mono ?_); rintro r9 w5 ⟨rfl, h9⟩; replace K := K.on h9; clear h9 c0 c1 c2 c3 c4 c5 c6 c7; obtain ⟨c0, c1, c2, c3, c4, c5, c6, c7⟩ := ev_cells (K.get 1 rfl)))
              | ((with_reducible refine Plan.load_lit 36 (.tmp 5) g ?_ (K.get 1 rfl) Try.underlying36 ?_ ?_ ?_); (· rfl); (· rfl); (· exact ev_info); simp only [Act.put, List.setIfInBounds_toArray, List.set_cons_zero, List.set_cons_succ]))
            refine Plan.start (fun W => W.heap[g]? = some (.cells #[.bool false, .int .i64 eq, .int .i64 es, .int .i64 ek, .int .i64 eb, .string ed, .int .i64 ee, .string ex] 36 (0, 0)) ∧ W.cell? ⟨g, 0, none⟩ = some (.bool false)) [(0, true), (1, true), (2, true), (3, true), (4, true), (5, false), (6, true), (7, true)] (by kernel_rfl) (by kernel_rfl) (by kernel_rfl) (by kernel_rfl) ⟨K.drew.get 1 rfl, cell_of_row _ _ 0 _ _ _ (K.drew.get 1 rfl)⟩ ?_
            simp only [List.map_cons, List.map_nil, List.getElem?_toArray, List.getElem?_cons_zero, List.getElem?_cons_succ]
            replace K := K.drew
            repeat (first | (refine Plan.take ?_ (by rfl) ?_ ?_; rotate_left; (· rintro w9 ⟨u0, u1⟩; go_simp; (try rw [if_neg (by omega)]); all_goals (with_reducible rfl)); simp only [Act.put, List.setIfInBounds_toArray, List.set_cons_zero, List.set_cons_succ]) | (refine Plan.pass (by rfl) ?_; simp only [Act.put, List.setIfInBounds_toArray, List.set_cons_zero, List.set_cons_succ]))
            refine Plan.pass' (by rfl) ⟨K.get 1 rfl, cell_of_row _ _ 0 _ _ _ (K.get 1 rfl)⟩ ?_
            simp only [Act.put, List.setIfInBounds_toArray, List.set_cons_zero, List.set_cons_succ]
            repeat (first | (refine Plan.take ?_ (by rfl) ?_ ?_; rotate_left; (· rintro w9 ⟨u0, u1⟩; go_simp; (try rw [if_neg (by omega)]); all_goals (with_reducible rfl)); simp only [Act.put, List.setIfInBounds_toArray, List.set_cons_zero, List.set_cons_succ]) | (refine Plan.pass (by rfl) ?_; simp only [Act.put, List.setIfInBounds_toArray, List.set_cons_zero, List.set_cons_succ]))
            refine Plan.ends ?_
            clear c0 c1 c2 c3 c4 c5 c6 c7
            obtain ⟨c0, c1, c2, c3, c4, c5, c6, c7⟩ := ev_cells (K.get 1 rfl)
            obtain ⟨W', hup, KM, _⟩ := env_mput evm_und K 2 rfl es (evV ⟨false, eq, es, ek, eb, ed, ee, ex⟩)
            simp only [List.set] at KM
            simp only [evV] at hup
            rw [← hnext] at KM
            replace KM := KM.sub (T' := [imapT w.heap.size (lastF L (j + 1))]) [2] rfl (by simp) (by simp)
            clear hnext
            go_wp2_with (first
              | ((with_reducible refine Plan.load_lit 36 (.tmp 5) g ?_ (K.get 1 rfl) Try.underlying36 ?_ ?_ ?_); (· rfl); (· rfl); (· exact ev_info); simp only [Act.put, List.setIfInBounds_toArray, List.set_cons_zero, List.set_cons_succ]))
            go_roundw
            case rel => exact ⟨j + 1, by go_num, by omega, HGO, KM⟩
            case measure => simp [intOf]; omega
      | some y =>
        rw [hle] at hlk hst
        simp only [Option.map_some, Option.getD_some, Option.isSome_some] at hlk
        have HE := Lib.hid (fun W => ev_neq_run y (callOf ⟨er, eq, es, ek, eb, ed, ee, ex⟩) W)
        obtain ⟨yr, yq, ys, yk, yb, yd, ye, yx⟩ := y
        go_upto_region 6 with fail
        clear hlk c0 c1 c2 c3 c4 c5 c6 c7 hle
        replace K := K.al (.cells #[.bool yr, .int .i64 yq, .int .i64 ys, .int .i64 yk, .int .i64 yb, .string yd, .int .i64 ye, .string yx] 36)
        generalize w1.alloc (.cells #[.bool yr, .int .i64 yq, .int .i64 ys, .int .i64 yk, .int .i64 yb, .string yd, .int .i64 ye, .string yx] 36) = w2 at *
        generalize w1.heap.size = g2 at *
        obtain ⟨c0, c1, c2, c3, c4, c5, c6, c7⟩ := ev_cells (K.get 1 rfl)
        cases pb with
        | false =>
          have HBAD := Lib.hid (HB.out (by rw [← hst]; rfl))
          clear hst HB HG hnext HCL HE
          go_wp2_with (first
            | (go_at_call 38; ((with_reducible refine (HP.out _).mono ?_); rintro r9 w5 ⟨rfl, h9⟩; replace K := K.on h9; clear h9 c0 c1 c2 c3 c4 c5 c6 c7; obtain ⟨c0, c1, c2, c3, c4, c5, c6, c7⟩ := ev_cells (K.get 1 rfl)))
            | ((with_reducible refine Plan.load_lit 36 (.tmp 5) g ?_ (K.get 1 rfl) Try.underlying36 ?_ ?_ ?_); (· rfl); (· rfl); (· exact ev_info); simp only [Act.put, List.setIfInBounds_toArray, List.set_cons_zero, List.set_cons_succ]))
          go_ret
          exact ⟨ret_b HBAD.out.symm, K.hb⟩
        | true =>
          cases er with
          | false =>
            have HBAD := Lib.hid (HB.out (by rw [← hst]; rfl))
            clear hst HB HG hnext HCL HE
            go_wp2_with (first
              | (go_at_call 38; ((with_reducible refine (HP.out _).mono ?_); rintro r9 w5 ⟨rfl, h9⟩; replace K := K.on h9; clear h9 c0 c1 c2 c3 c4 c5 c6 c7; obtain ⟨c0, c1, c2, c3, c4, c5, c6, c7⟩ := ev_cells (K.get 1 rfl)))
              | ((with_reducible refine Plan.load_lit 36 (.tmp 5) g ?_ (K.get 1 rfl) Try.underlying36 ?_ ?_ ?_); (· rfl); (· rfl); (· exact ev_info); simp only [Act.put, List.setIfInBounds_toArray, List.set_cons_zero, List.set_cons_succ]))
            go_ret
            exact ⟨ret_b HBAD.out.symm, K.hb⟩
          | true =>
            go_upto_region 8 with (first
              | (go_at_call 38; ((with_reducible refine (HP.out _).mono ?_); rintro r9 w5 ⟨rfl, h9⟩; replace K := K.on h9; clear h9 c0 c1 c2 c3 c4 c5 c6 c7; obtain ⟨c0, c1, c2, c3, c4, c5, c6, c7⟩ := ev_cells (K.get 1 rfl)))
              | ((with_reducible refine Plan.load_lit 36 (.tmp 5) g ?_ (K.get 1 rfl) Try.underlying36 ?_ ?_ ?_); (· rfl); (· rfl); (· exact ev_info); simp only [Act.put, List.setIfInBounds_toArray, List.set_cons_zero, List.set_cons_succ]))
            obtain ⟨D, hD⟩ : ∃ D, (!decide ((⟨yr, yq, ys, yk, yb, yd, ye, yx⟩ : Ev) = callOf ⟨true, eq, es, ek, eb, ed, ee, ex⟩)) = D := ⟨_, rfl⟩
            have hE := fun W => HE.out W
            simp only [hD] at hE
            simp only [evV, callOf] at hE HCL
            have hst2 : (!D) = rb := by rw [← hst, ← hD]; simp
            clear hst hD HE
            refine Plan.start (fun W => W.heap[g]? = some (.cells #[.bool true, .int .i64 eq, .int .i64 es, .int .i64 ek, .int .i64 eb, .string ed, .int .i64 ee, .string ex] 36 (0, 0)) ∧ W.heap[g2]? = some (.cells #[.bool yr, .int .i64 yq, .int .i64 ys, .int .i64 yk, .int .i64 yb, .string yd, .int .i64 ye, .string yx] 36 (0, 0)) ∧ W.cell? ⟨g, 0, none⟩ = some (.bool true)) [(0, true), (1, true), (2, true), (3, true), (4, true), (5, false), (6, true), (7, true)] (by kernel_rfl) (by kernel_rfl) (by kernel_rfl) (by kernel_rfl) ⟨K.drew.get 1 rfl, K.drew.get 0 rfl, cell_of_row _ _ 0 _ _ _ (K.drew.get 1 rfl)⟩ ?_
            simp only [List.map_cons, List.map_nil, List.getElem?_toArray, List.getElem?_cons_zero, List.getElem?_cons_succ]
            replace K := K.drew
            repeat (first | (refine Plan.take ?_ (by rfl) ?_ ?_; rotate_left; (· rintro w9 ⟨u0, u1, u2⟩; go_simp; (try rw [if_neg (by omega)]); all_goals (with_reducible rfl)); simp only [Act.put, List.setIfInBounds_toArray, List.set_cons_zero, List.set_cons_succ]) | (refine Plan.pass (by rfl) ?_; simp only [Act.put, List.setIfInBounds_toArray, List.set_cons_zero, List.set_cons_succ]))
            refine Plan.take_load 36 (.tmp 6) g2 _ (by rfl) rfl (by rfl) (fun w9 h9 => h9.2.1) Try.underlying36 rfl ev_info ?_
            simp only [Act.put, List.setIfInBounds_toArray, List.set_cons_zero, List.set_cons_succ]
            refine Plan.take_load 36 (.tmp 5) g _ (by rfl) rfl (by rfl) (fun w9 h9 => h9.1) Try.underlying36 rfl ev_info ?_
            simp only [Act.put, List.setIfInBounds_toArray, List.set_cons_zero, List.set_cons_succ]
            refine Plan.call (by rfl) 39 _ ?_ (HCL.out _) ?_
            · go_simp
            rintro r9 w6 ⟨rfl, h9⟩
            replace K := K.on h9
            clear h9
            refine ⟨_, rfl, ⟨K.get 1 rfl, K.get 0 rfl, cell_of_row _ _ 0 _ _ _ (K.get 1 rfl)⟩, ?_⟩
            simp only [Act.put, List.setIfInBounds_toArray, List.set_cons_zero, List.set_cons_succ]
            repeat (first | (refine Plan.take ?_ (by rfl) ?_ ?_; rotate_left; (· rintro w9 ⟨u0, u1, u2⟩; go_simp; (try rw [if_neg (by omega)]); all_goals (with_reducible rfl)); simp only [Act.put, List.setIfInBounds_toArray, List.set_cons_zero, List.set_cons_succ]) | (refine Plan.pass (by rfl) ?_; simp only [Act.put, List.setIfInBounds_toArray, List.set_cons_zero, List.set_cons_succ]))
            cases D with
            | false =>
              have HGO := Lib.hid (HG.out hst2.symm)
              clear hst2 HB HG HCL hE
              refine Plan.ends ?_
              clear c0 c1 c2 c3 c4 c5 c6 c7
              obtain ⟨c0, c1, c2, c3, c4, c5, c6, c7⟩ := ev_cells (K.get 1 rfl)
              obtain ⟨W', hup, KM, _⟩ := env_mput evm_und K 2 rfl es (evV ⟨true, eq, es, ek, eb, ed, ee, ex⟩)
              simp only [List.set] at KM
              simp only [evV] at hup
              rw [← hnext] at KM
              replace KM := KM.sub (T' := [imapT w.heap.size (lastF L (j + 1))]) [2] rfl (by simp) (by simp)
              clear hnext
              go_wp2_with (first
                | ((with_reducible refine Plan.load_lit 36 (.tmp 5) g ?_ (K.get 1 rfl) Try.underlying36 ?_ ?_ ?_); (· rfl); (· rfl); (· exact ev_info); simp only [Act.put, List.setIfInBounds_toArray, List.set_cons_zero, List.set_cons_succ]))
              go_roundw
              case rel => exact ⟨j + 1, by go_num, by omega, HGO, KM⟩
              case measure => simp [intOf]; omega
            | true =>
              have HBAD := Lib.hid (HB.out hst2.symm)
              refine Plan.ends ?_
              clear hst2 HB HG hnext HCL hE
              go_wp2_with fail
              go_ret
              exact ⟨ret_b HBAD.out.symm, K.hb⟩
    · obtain rfl : j = n := by omega
      have hjI : ¬ (j : Int) < (j : Int) := by omega
      have HY := Lib.hid (HALL.out HR.out)
      go_wp2_with fail
      go_ret
      exact ⟨ret_b HY.out.symm, K.hb⟩
set_option maxHeartbeats 8000000 in
set_option maxRecDepth 20000 in
theorem hisCheck_any (F : Nat → Prop) (L : List Ev) (b : Int) (a : Option Addr) (n c : Nat) (w : World) (hl : VList w F a n c L) :
    Calls Try.prog 14 #[.int .i64 b, .slice a n c] w fun r w' => r = .returned (.int .i64 (checkE b L)) ∧ Below w.heap.size w w' := by
  have hlen := hl.length
  have hb := Below.refl w.heap.size w
  have hcp := hl.cap
  unfold maxLen at hcp
  have HR := Lib.hid (fun W (h : Below w.heap.size w W) => hisRight_any _ L a n c W (hl.same h))
  clear hl
  unfold checkE
  rw [hlen]
  generalize rightsB L = V at *
  clear hlen
  have hc : b < 1 ∨ (1 ≤ b ∧ 128 < b) ∨ (1 ≤ b ∧ b ≤ 128) := by omega
  rcases hc with h1 | ⟨h1, h2⟩ | ⟨h1, h2⟩
  · rw [if_pos (by omega)]
    clear HR
    go_enter Try.func14, Try.ntmps14
    go_wp2_with fail
    go_ret
    exact ⟨rfl, hb⟩
  · rw [if_pos (by omega)]
    clear HR
    go_enter Try.func14, Try.ntmps14
    go_wp2_with fail
    go_ret
    exact ⟨rfl, hb⟩
  · rw [if_neg (by omega)]
    by_cases h3 : 400 < n
    · rw [if_pos h3]
      have h3I : (400 : Int) < (n : Int) := by omega
      clear HR
      go_enter Try.func14, Try.ntmps14
      go_wp2_with fail
      go_ret
      exact ⟨rfl, hb⟩
    · rw [if_neg h3]
      have h3I : ¬ (400 : Int) < (n : Int) := by omega
      cases V
      · go_enter Try.func14, Try.ntmps14
        go_wp2_with (first
          | (go_at_call 29; ((with_reducible refine (HR.out _ hb).mono ?_); rintro r9 w5 ⟨rfl, h9⟩; replace hb := hb.trans (h9.mono hb.size); clear h9)))
        go_ret
        exact ⟨rfl, hb⟩
      · go_enter Try.func14, Try.ntmps14
        go_wp2_with (first
          | (go_at_call 29; ((with_reducible refine (HR.out _ hb).mono ?_); rintro r9 w5 ⟨rfl, h9⟩; replace hb := hb.trans (h9.mono hb.size); clear h9)))
        go_ret
        exact ⟨rfl, hb⟩
theorem historyOk : HistoryOk :=
  ⟨fun F L b a n c w hl _ => hisCheck_any F L b a n c w hl, fun F L a n c s t w hl _ => hisBefore_any F L a n c s t w hl, fun F L a n c w hl hm => hisPending_any F L a n c w hl hm, fun F L a n c w hl hm => hisOps_any F L a n c w hl hm, fun F L a n c b w hl hm => hisRestrict_any F L a n c b w hl hm⟩
end Go.Proofs.Ytkamadeekkccgaa.Ents
