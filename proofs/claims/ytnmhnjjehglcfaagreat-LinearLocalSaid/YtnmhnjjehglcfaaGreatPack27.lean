/- Texts that belong together, part 27. -/
import Derived.Test.YtnmhnjjehglcfaaGreatPack15
import Derived.Test.YtnmhnjjehglcfaaGreatPack26

/- The walk of the law's command that is made of numbers. -/
namespace Go.Proofs.YtnmhnjjehglcfaaGreat.Ents
open Go.RowKit Plan ModMath CmdMath Rws Env LayMath
end Go.Proofs.YtnmhnjjehglcfaaGreat.Ents

/- The walks of the document's skipped and next: one step of the search. -/
namespace Go.Proofs.YtnmhnjjehglcfaaGreat.Ents
open Go.RowKit Plan HisMath LinMath ModMath Rws Env LayMath
set_option maxHeartbeats 8000000 in
set_option maxRecDepth 20000 in
theorem refSkipped_any (x : Ev) (w : World) :
    Calls Tryz.prog 104 #[evV x] w fun r w' => r = .returned (.bool (skipP x)) ∧ Below w.heap.size w w' := by
  obtain ⟨xr, xq, xs, xk, xb, xd, xe, xx⟩ := x
  have K := (Env.start w).al (.cells #[.bool xr, .int .i64 xq, .int .i64 xs, .int .i64 xk, .int .i64 xb, .string xd, .int .i64 xe, .string xx] 55)
  show Calls _ _ _ _ (fun r w' => r = .returned (.bool (xr && !decide (xe = 0))) ∧ _)
  cases xr with
  | false =>
    go_enter Tryz.func104, Tryz.ntmps104
    obtain ⟨q0, q1, q2, q3, q4, q5, q6, q7⟩ := ev_cells (K.get 0 rfl)
    go_wp2_with fail
    go_ret
    exact ⟨rfl, K.hb⟩
  | true =>
    by_cases he : xe = 0
    · subst he
      go_enter Tryz.func104, Tryz.ntmps104
      obtain ⟨q0, q1, q2, q3, q4, q5, q6, q7⟩ := ev_cells (K.get 0 rfl)
      go_wp2_with fail
      go_ret
      exact ⟨rfl, K.hb⟩
    · have d1 : (xe == 0) = false := by simpa using he
      have d2 : (xe != 0) = true := by simpa using he
      go_enter Tryz.func104, Tryz.ntmps104
      obtain ⟨q0, q1, q2, q3, q4, q5, q6, q7⟩ := ev_cells (K.get 0 rfl)
      go_wp2_with fail
      go_ret
      exact ⟨ret_b (by simp [he]), K.hb⟩
theorem res_eql_run (x y : Res) (w : World) : (binOp .eql 53 (resV x) (resV y)).run Tryz.prog w = .ok (.bool (decide (x.err = y.err ∧ x.data = y.data))) w := by
  obtain ⟨xe, xd⟩ := x
  obtain ⟨ye, yd⟩ := y
  go_simp
  simp only [bl_eq]
  repeat' split
  all_goals simp_all
theorem ret_sb {s : ByteArray} {a b : Bool} (h : a = b) : Ending.returned (.tuple #[.string s, .bool a]) = .returned (.tuple #[.string s, .bool b]) := by rw [h]
set_option maxHeartbeats 8000000 in
set_option maxRecDepth 20000 in
theorem refNext_any (x : Ev) (v : ByteArray) (w : World) :
    Calls Tryz.prog 83 #[evV x, .string v] w fun r w' => ∃ u, applyB [v] (cmdOf x) = [u] ∧ r = .returned (.tuple #[.string u, .bool (!x.ret || decide ((applyR [v] (cmdOf x)).err = x.err ∧ (applyR [v] (cmdOf x)).data = x.res))]) ∧ Below w.heap.size w w' := by
  obtain ⟨xr, xq, xs, xk, xb, xd, xe, xx⟩ := x
  obtain ⟨u, hu⟩ := apply_one v ⟨xk, xb, xd⟩
  obtain ⟨re, rd, hR⟩ : ∃ re rd, applyR [v] ⟨xk, xb, xd⟩ = ⟨re, rd⟩ := ⟨_, _, rfl⟩
  have HAP := Lib.hid (fun W F a c (h : SList W F a 1 c [v]) => refApply_any F [v] a 1 c xk xb xd W h (by omega))
  unfold APost at HAP
  show Calls _ _ _ _ (fun r w' => ∃ u, applyB [v] ⟨xk, xb, xd⟩ = [u] ∧ r = .returned (.tuple #[.string u, .bool (!xr || decide ((applyR [v] ⟨xk, xb, xd⟩).err = xe ∧ (applyR [v] ⟨xk, xb, xd⟩).data = xx))]) ∧ _)
  rw [hu, hR] at *
  have K := ((Env.start w).al (.cells #[.bool xr, .int .i64 xq, .int .i64 xs, .int .i64 xk, .int .i64 xb, .string xd, .int .i64 xe, .string xx] 55)).al (.cells #[.string v] 9)
  have l0 : SList _ (fun b => w.heap.size ≤ b) (some ⟨_, 0, none⟩) 1 1 [v] := lit_list (R := SR) (L := [v]) (K.get 0 rfl) (K.lo 0 rfl) (by unfold maxLen; simp)
  simp only [World.size_alloc] at K l0
  have HE := Lib.hid (fun W => res_eql_run ⟨re, rd⟩ ⟨xe, xx⟩ W)
  cases xr with
  | false =>
    go_enter Tryz.func83, Tryz.ntmps83
    obtain ⟨b0, b1, b2, b3, b4, b5, b6, b7⟩ := ev_cells (K.get 1 rfl)
    go_upto_region 2 with (first
      | (go_at_call 30; ((with_reducible refine (HAP.out _ _ _ _ l0).mono ?_); rintro r9 w8 ⟨a8, n8, c8, rfl, hx, h9⟩; clear l0; replace K := K.on h9; clear h9; replace K := K.al (.cells #[.int .i64 re, .string rd] 53); replace hx := hx.same ((Below.refl _ _).alloc (Nat.le_refl _) (.cells #[.int .i64 re, .string rd] 53)); clear b0 b1 b2 b3 b4 b5 b6 b7; obtain ⟨b0, b1, b2, b3, b4, b5, b6, b7⟩ := ev_cells (K.get 2 rfl); obtain ⟨r0, r1⟩ := hs_cells2 (K.get 0 rfl))))
    have hn8 := hx.length
    obtain rfl : 1 = n8 := hn8
    obtain ⟨x8, s8, rfl, hs8, hc8⟩ := str_at hx 0 (by omega)
    obtain rfl : u = s8 := by simpa using hs8
    replace hc8 : (w8.alloc (.cells #[.int .i64 re, .string rd] 53)).cell? x8 = some (.string u) := by have h9 := hc8; rwa [show x8.add 0 = x8 from by simp [Addr.add]] at h9
    refine Plan.start (fun W => (W.cell? ⟨w.heap.size, 0, none⟩ = some (.bool false) ∧ W.cell? ⟨w.heap.size, 6, none⟩ = some (.int .i64 xe) ∧ W.cell? ⟨w.heap.size, 7, none⟩ = some (.string xx)) ∧ (W.cell? ⟨w8.heap.size, 0, none⟩ = some (.int .i64 re) ∧ W.cell? ⟨w8.heap.size, 1, none⟩ = some (.string rd)) ∧ W.cell? x8 = some (.string u)) [(0, true), (1, true), (2, true), (3, true), (4, true), (5, true), (6, true), (7, true), (8, true), (9, true), (10, true), (11, true), (12, true), (13, true)] (by kernel_rfl) (by kernel_rfl) (by kernel_rfl) (by kernel_rfl) ⟨⟨b0, b6, b7⟩, ⟨r0, r1⟩, hc8⟩ ?_
    simp only [List.map_cons, List.map_nil, List.getElem?_toArray, List.getElem?_cons_zero, List.getElem?_cons_succ]
    repeat (first | (refine Plan.take ?_ (by rfl) ?_ ?_; rotate_left; (· rintro w9 ⟨⟨u0, u6, u7⟩, ⟨u8, u9⟩, u10⟩; go_simp; (try rw [if_neg (by omega)]); all_goals (with_reducible rfl)); simp only [Act.put, List.setIfInBounds_toArray, List.set_cons_zero, List.set_cons_succ]) | (refine Plan.pass (by rfl) ?_; simp only [Act.put, List.setIfInBounds_toArray, List.set_cons_zero, List.set_cons_succ]))
    refine Plan.ends ?_
    go_wp2_with fail
    go_ret2
    exact ⟨u, rfl, rfl, K.drew.hb⟩
  | true =>
    have he := HE.out
    go_enter Tryz.func83, Tryz.ntmps83
    obtain ⟨b0, b1, b2, b3, b4, b5, b6, b7⟩ := ev_cells (K.get 1 rfl)
    go_upto_region 2 with (first
      | (go_at_call 30; ((with_reducible refine (HAP.out _ _ _ _ l0).mono ?_); rintro r9 w8 ⟨a8, n8, c8, rfl, hx, h9⟩; clear l0; replace K := K.on h9; clear h9; replace K := K.al (.cells #[.int .i64 re, .string rd] 53); replace hx := hx.same ((Below.refl _ _).alloc (Nat.le_refl _) (.cells #[.int .i64 re, .string rd] 53)); clear b0 b1 b2 b3 b4 b5 b6 b7; obtain ⟨b0, b1, b2, b3, b4, b5, b6, b7⟩ := ev_cells (K.get 2 rfl); obtain ⟨r0, r1⟩ := hs_cells2 (K.get 0 rfl))))
    have hn8 := hx.length
    obtain rfl : 1 = n8 := hn8
    obtain ⟨x8, s8, rfl, hs8, hc8⟩ := str_at hx 0 (by omega)
    obtain rfl : u = s8 := by simpa using hs8
    replace hc8 : (w8.alloc (.cells #[.int .i64 re, .string rd] 53)).cell? x8 = some (.string u) := by have h9 := hc8; rwa [show x8.add 0 = x8 from by simp [Addr.add]] at h9
    refine Plan.start (fun W => (W.cell? ⟨w.heap.size, 0, none⟩ = some (.bool true) ∧ W.cell? ⟨w.heap.size, 6, none⟩ = some (.int .i64 xe) ∧ W.cell? ⟨w.heap.size, 7, none⟩ = some (.string xx)) ∧ (W.cell? ⟨w8.heap.size, 0, none⟩ = some (.int .i64 re) ∧ W.cell? ⟨w8.heap.size, 1, none⟩ = some (.string rd)) ∧ W.cell? x8 = some (.string u)) [(0, true), (1, true), (2, true), (3, true), (4, true), (5, true), (6, true), (7, true), (8, true), (9, true), (10, true), (11, true), (12, true), (13, true)] (by kernel_rfl) (by kernel_rfl) (by kernel_rfl) (by kernel_rfl) ⟨⟨b0, b6, b7⟩, ⟨r0, r1⟩, hc8⟩ ?_
    simp only [List.map_cons, List.map_nil, List.getElem?_toArray, List.getElem?_cons_zero, List.getElem?_cons_succ]
    repeat (first | (refine Plan.take ?_ (by rfl) ?_ ?_; rotate_left; (· rintro w9 ⟨⟨u0, u6, u7⟩, ⟨u8, u9⟩, u10⟩; go_simp; (try rw [if_neg (by omega)]); all_goals (with_reducible rfl)); simp only [Act.put, List.setIfInBounds_toArray, List.set_cons_zero, List.set_cons_succ]) | (refine Plan.pass (by rfl) ?_; simp only [Act.put, List.setIfInBounds_toArray, List.set_cons_zero, List.set_cons_succ]))
    refine Plan.ends ?_
    go_wp2_with fail
    go_ret2
    exact ⟨u, rfl, ret_sb (by simp), K.drew.hb⟩
end Go.Proofs.YtnmhnjjehglcfaaGreat.Ents

/- The walk of the document's must: which operations have to occur, and which do not. -/
namespace Go.Proofs.YtnmhnjjehglcfaaGreat.LinMath
open HisMath
def mustN (O : List Ev) : Nat → Nat
  | 0 => 0
  | k + 1 => match O[k]? with
    | some x => if skipP x = false ∧ x.ret = true then mustN O k ||| 2 ^ k else mustN O k
    | none => mustN O k
def skipN (O : List Ev) : Nat → Nat
  | 0 => 0
  | k + 1 => match O[k]? with
    | some x => if skipP x = true then skipN O k ||| 2 ^ k else skipN O k
    | none => skipN O k
theorem mustN_yes {O : List Ev} {k : Nat} {x : Ev} (h : O[k]? = some x) (h1 : skipP x = false) (h2 : x.ret = true) : mustN O (k + 1) = mustN O k ||| 2 ^ k := by simp [mustN, h, h1, h2]
theorem mustN_no {O : List Ev} {k : Nat} {x : Ev} (h : O[k]? = some x) (h1 : skipP x = true ∨ x.ret = false) : mustN O (k + 1) = mustN O k := by
  rcases h1 with h1 | h1 <;> simp [mustN, h, h1]
theorem skipN_yes {O : List Ev} {k : Nat} {x : Ev} (h : O[k]? = some x) (h1 : skipP x = true) : skipN O (k + 1) = skipN O k ||| 2 ^ k := by simp [skipN, h, h1]
theorem skipN_no {O : List Ev} {k : Nat} {x : Ev} (h : O[k]? = some x) (h1 : skipP x = false) : skipN O (k + 1) = skipN O k := by simp [skipN, h, h1]
theorem mustN_lt (O : List Ev) : ∀ k, mustN O k < 2 ^ k
  | 0 => by simp [mustN]
  | k + 1 => by
    have h := mustN_lt O k
    have h2 : 2 ^ k < 2 ^ (k + 1) := Nat.pow_lt_pow_right (by decide) (by omega)
    unfold mustN
    split
    · split
      · exact Nat.or_lt_two_pow (by omega) h2
      · omega
    · omega
theorem skipN_lt (O : List Ev) : ∀ k, skipN O k < 2 ^ k
  | 0 => by simp [skipN]
  | k + 1 => by
    have h := skipN_lt O k
    have h2 : 2 ^ k < 2 ^ (k + 1) := Nat.pow_lt_pow_right (by decide) (by omega)
    unfold skipN
    split
    · split
      · exact Nat.or_lt_two_pow (by omega) h2
      · omega
    · omega
theorem pow_lt62 {k n : Nat} (hk : k ≤ 60) (h : n < 2 ^ k) : n < 2 ^ 62 := Nat.lt_of_lt_of_le h (Nat.pow_le_pow_right (by decide) (by omega))
end Go.Proofs.YtnmhnjjehglcfaaGreat.LinMath
namespace Go.Proofs.YtnmhnjjehglcfaaGreat.Ents
open Go.RowKit Plan HisMath LinMath Rws Env LayMath Bits
set_option maxHeartbeats 8000000 in
set_option maxRecDepth 20000 in
theorem refMust_any (F : Nat → Prop) (O : List Ev) (oa : Option Addr) (on oc g : Nat) (f m e : Value) (w : World) (hg : w.heap[g]? = some (.cells #[.slice oa on oc, f, m, e] 98 (0, 0))) (hl : VList w F oa on oc O) (hm : on ≤ 60) :
    Calls Tryz.prog 81 #[.pointer (some ⟨g, 0, none⟩)] w fun r w' => r = .returned (.tuple #[.int .i64 ((mustN O on : Nat) : Int), .int .i64 ((skipN O on : Nat) : Int)]) ∧ Below w.heap.size w w' := by
  have hlen := hl.length
  obtain ⟨hcp, hcm⟩ := hl.cap
  unfold maxLen at hcm
  have HG := Lib.hid (fun W (h : Below w.heap.size w W) => cell_of_row W g 0 _ _ _ ((h.block g (e_lt hg)).trans hg))
  have HAT := Lib.hid (fun W (h : Below w.heap.size w W) i (hi : i < on) => ev_at (hl.same h) i hi)
  have HSK := Lib.hid (fun W x => refSkipped_any x W)
  have K := Env.start w
  clear hl hg
  go_enter Tryz.func81, Tryz.ntmps81
  go_wp2_with fail
  go_loopw [4, 5, 6] (fun a b x wr => ∃ j : Nat, x = .int .i64 (j : Int) ∧ j ≤ on ∧ a = .int .i64 ((mustN O j : Nat) : Int) ∧ b = .int .i64 ((skipN O j : Nat) : Int) ∧ Env w wr []) (fun _ _ x _ => on - (intOf x).toNat)
  case atStart => exact ⟨0, rfl, by omega, rfl, rfl, K⟩
  case round =>
    clear K
    obtain ⟨j, rfl, hj, rfl, rfl, K⟩ := hrel
    have hc0 := HG.out _ K.hb
    by_cases hlt : j < on
    · obtain ⟨x, y, rfl, hy, z0, z1, z2, z3, z4, z5, z6, z7⟩ := HAT.out wr K.hb j hlt
      have hjI : (j : Int) < (on : Int) := by omega
      have HM1 := Lib.hid (@mustN_yes O j y hy)
      have HM2 := Lib.hid (@mustN_no O j y hy)
      have HS1 := Lib.hid (@skipN_yes O j y hy)
      have HS2 := Lib.hid (@skipN_no O j y hy)
      have hpw := Lib.hid (pow_wrap (i := j) (by omega))
      have h2j : 2 ^ j < 2 ^ 62 := Nat.pow_lt_pow_right (by decide) (by omega)
      have horm := Lib.hid (bits_or (pow_lt62 (by omega) (mustN_lt O j)) h2j)
      have hors := Lib.hid (bits_or (pow_lt62 (by omega) (skipN_lt O j)) h2j)
      clear h2j
      have HK := Lib.hid (fun W => HSK.out W y)
      have HC := Lib.hid (fun W (h : Below w.heap.size w W) => (show EvAt W x j y from by
        obtain ⟨x', e', hx, he', q⟩ := HAT.out W h j hlt
        obtain rfl := Option.some.inj hx
        rw [hy] at he'
        obtain rfl := Option.some.inj he'
        exact q))
      generalize hMJ : mustN O j = MJ at *
      generalize hSJ : skipN O j = SJ at *
      clear hMJ hSJ
      obtain ⟨yr, yq, ys, yk, yb, yd, ye, yx⟩ := y
      simp only at z0 z1 z2 z3 z4 z5 z6 z7
      clear hy HSK
      generalize hS : skipP ⟨yr, yq, ys, yk, yb, yd, ye, yx⟩ = S at *
      clear hS
      cases S with
      | true =>
        have e1 := Lib.hid (HM2.out (.inl rfl))
        have e2 := Lib.hid (HS1.out rfl)
        clear HM1 HM2 HS1 HS2
        go_wp2_with (first
          | (go_at_call 104; ((with_reducible refine (HK.out _).mono ?_); rintro r9 w9 ⟨rfl, h9⟩; replace K := K.on h9; clear h9; replace hc0 := HG.out _ K.hb; clear z0 z1 z2 z3 z4 z5 z6 z7; obtain ⟨z0, z1, z2, z3, z4, z5, z6, z7⟩ := HC.out _ K.hb)))
        go_roundw
        case rel => exact ⟨j + 1, by go_num, by omega, by rw [e1.out], by rw [hpw.out, hors.out, e2.out], K⟩
        case measure => simp [intOf]; omega
      | false =>
        cases yr with
        | false =>
          have e1 := Lib.hid (HM2.out (.inr rfl))
          have e2 := Lib.hid (HS2.out rfl)
          clear HM1 HM2 HS1 HS2
          go_wp2_with (first
            | (go_at_call 104; ((with_reducible refine (HK.out _).mono ?_); rintro r9 w9 ⟨rfl, h9⟩; replace K := K.on h9; clear h9; replace hc0 := HG.out _ K.hb; clear z0 z1 z2 z3 z4 z5 z6 z7; obtain ⟨z0, z1, z2, z3, z4, z5, z6, z7⟩ := HC.out _ K.hb)))
          go_roundw
          case rel => exact ⟨j + 1, by go_num, by omega, by rw [e1.out], by rw [e2.out], K⟩
          case measure => simp [intOf]; omega
        | true =>
          have e1 := Lib.hid (HM1.out rfl rfl)
          have e2 := Lib.hid (HS2.out rfl)
          clear HM1 HM2 HS1 HS2
          go_wp2_with (first
            | (go_at_call 104; ((with_reducible refine (HK.out _).mono ?_); rintro r9 w9 ⟨rfl, h9⟩; replace K := K.on h9; clear h9; replace hc0 := HG.out _ K.hb; clear z0 z1 z2 z3 z4 z5 z6 z7; obtain ⟨z0, z1, z2, z3, z4, z5, z6, z7⟩ := HC.out _ K.hb)))
          go_roundw
          case rel => exact ⟨j + 1, by go_num, by omega, by rw [hpw.out, horm.out, e1.out], by rw [e2.out], K⟩
          case measure => simp [intOf]; omega
    · obtain rfl : j = on := by omega
      have hjI : ¬ (j : Int) < (j : Int) := by omega
      clear HAT HSK HG
      go_wp2_with fail
      go_ret2
      exact ⟨rfl, K.hb⟩
end Go.Proofs.YtnmhnjjehglcfaaGreat.Ents

/- The walk of the document's start: the search of a history. -/
namespace Go.Proofs.YtnmhnjjehglcfaaGreat.LinMath
open HisMath
/-- the operations that are before one -/
def setN (L O : List Ev) (t : Int) : Nat → Nat
  | 0 => 0
  | k + 1 => match O[k]? with
    | some y => if beforeB L y.serial t = true then setN L O t k ||| 2 ^ k else setN L O t k
    | none => setN L O t k
def firstE (L O : List Ev) (n : Nat) : Nat → List Int
  | 0 => []
  | i + 1 => match O[i]? with
    | some x => firstE L O n i ++ [((setN L O x.serial n : Nat) : Int)]
    | none => firstE L O n i
theorem setN_yes {L O : List Ev} {t : Int} {k : Nat} {y : Ev} (h : O[k]? = some y) (hb : beforeB L y.serial t = true) : setN L O t (k + 1) = setN L O t k ||| 2 ^ k := by simp [setN, h, hb]
theorem setN_no {L O : List Ev} {t : Int} {k : Nat} {y : Ev} (h : O[k]? = some y) (hb : beforeB L y.serial t = false) : setN L O t (k + 1) = setN L O t k := by simp [setN, h, hb]
theorem setN_lt (L O : List Ev) (t : Int) : ∀ k, setN L O t k < 2 ^ k
  | 0 => by simp [setN]
  | k + 1 => by
    have h := setN_lt L O t k
    have h2 : 2 ^ k < 2 ^ (k + 1) := Nat.pow_lt_pow_right (by decide) (by omega)
    unfold setN
    split
    · split
      · exact Nat.or_lt_two_pow (by omega) h2
      · omega
    · omega
theorem first_next {L O : List Ev} {n i : Nat} {x : Ev} (h : O[i]? = some x) : firstE L O n i ++ [((setN L O x.serial n : Nat) : Int)] = firstE L O n (i + 1) := by simp [firstE, h]
end Go.Proofs.YtnmhnjjehglcfaaGreat.LinMath
namespace Go.Proofs.YtnmhnjjehglcfaaGreat.Ents
open Go.RowKit Plan HisMath LinMath Rws Env LayMath Bits
set_option maxHeartbeats 8000000 in
set_option maxRecDepth 20000 in
theorem refStart_any (F : Nat → Prop) (L : List Ev) (a : Option Addr) (n c : Nat) (w : World) (hl : VList w F a n c L) (hm : n ≤ 100000) (ho : (opsE L n).length ≤ 60) :
    Calls Tryz.prog 51 #[.slice a n c] w fun r w' => ∃ (g mb : Nat) (oa fa : Option Addr) (on oc fc : Nat), r = .returned (.pointer (some ⟨g, 0, none⟩)) ∧
      w'.heap[g]? = some (.cells #[.slice oa on oc, .slice fa on fc, .map (some mb), .slice none 0 0] 98 (0, 0)) ∧ w'.heap[mb]? = some (.map #[] 0) ∧ w.heap.size ≤ g ∧ w.heap.size ≤ mb ∧
      VList w' (fun b => w.heap.size ≤ b ∧ b ≠ g ∧ b ≠ mb) oa on oc (opsE L n) ∧ TList IR w' (fun b => w.heap.size ≤ b ∧ b ≠ g ∧ b ≠ mb) fa on fc (firstE L (opsE L n) on on) ∧ Below w.heap.size w w' := by
  have HOP := Lib.hid (refOps_any F L a n c w hl hm)
  unfold VPost at HOP
  have HBE0 := Lib.hid (fun W (h : Below w.heap.size w W) s t => refBefore_any _ L a n c s t W (hl.same h))
  generalize hO : opsE L n = O at *
  clear hO hl
  have hmm := fun W => (show (Instr.makeMap 96 none).run Tryz.prog W = .ok (.map (some W.heap.size)) (W.alloc (.map #[] 0)) from rfl)
  go_enter Tryz.func51, Tryz.ntmps51
  go_upto_region 2 with (first
    | (go_at_call 41; ((with_reducible refine (HOP.out).mono ?_); rintro r9 w2 ⟨oa, on, oc, rfl, lo, hb⟩; have K := ((Env.start w2).al (.map #[] 0)).al (.cells #[.slice oa on oc, .slice none 0 0, .map (some w2.heap.size), .slice none 0 0] 98); simp only [World.size_alloc] at K)))
  clear HOP
  have hol := lo.length
  obtain ⟨hcp, hcm⟩ := lo.cap
  unfold maxLen at hcm
  have lw := lo
  replace lo := lo.low
  have hhb := Lib.hid hb
  have HBE := Lib.hid (fun W (h : Below w2.heap.size w2 W) s t => HBE0.out W (hb.trans (h.mono hb.size)) s t)
  clear HBE0 hb
  have HAT := Lib.hid (fun W (h : Below w2.heap.size w2 W) i (hi : i < on) => ev_at (lo.same h) i hi)
  replace K := K.nil IR
  clear hmm
  generalize hG : w2.heap.size + 1 = G at *
  have hG0 : w.heap.size ≤ G := by have := hhb.out.size; omega
  have hGw := Lib.hid (show w2.heap.size ≤ G by omega)
  generalize hMB : w2.heap.size = MB at K
  have hMB0 : w.heap.size ≤ MB := by have := hhb.out.size; omega
  have hMw := Lib.hid (show w2.heap.size ≤ MB by omega)
  clear hG
  go_wp2_with fail
  go_loopw [4] (fun x wr => ∃ (i : Nat) (fv : Value), x = .int .i64 (i : Int) ∧ i ≤ on ∧ Env w2 wr [Env.lst IR fv i (firstE L O on i), .box G (.cells #[.slice oa on oc, fv, .map (some MB), .slice none 0 0] 98 (0, 0)), .box MB (.map #[] 0)]) (fun x _ => on - (intOf x).toNat)
  case atStart => exact ⟨0, _, rfl, by omega, K⟩
  case round =>
    clear K
    obtain ⟨i, fv, rfl, hi, K⟩ := hrel
    have hcg := cell_of_row _ _ 0 _ _ _ (K.get 1 rfl)
    by_cases hlt : i < on
    · obtain ⟨x, X, rfl, hx, -⟩ := HAT.out wr K.hb i hlt
      have hiI : (i : Int) < (on : Int) := by omega
      have hio : i ≤ oc := by omega
      have HCX := Lib.hid (fun W (h : Below w2.heap.size w2 W) => (show EvAt W x i X from by
        obtain ⟨x', e', hx', he', q⟩ := HAT.out W h i hlt
        obtain rfl := Option.some.inj hx'
        rw [hx] at he'
        obtain rfl := Option.some.inj he'
        exact q))
      have HNX := Lib.hid (@first_next L O on i X hx)
      generalize firstE L O on i = FL at *
      clear hx
      obtain ⟨xr, xq, xs, xk, xb, xd, xe, xx⟩ := X
      simp only at HCX HNX
      go_wp2_with fail
      go_loopw [5, 6] (fun a y wr => ∃ k : Nat, y = .int .i64 (k : Int) ∧ k ≤ on ∧ a = .int .i64 ((setN L O xs k : Nat) : Int) ∧ Env w2 wr [Env.lst IR fv i FL, .box G (.cells #[.slice (some x) on oc, fv, .map (some MB), .slice none 0 0] 98 (0, 0)), .box MB (.map #[] 0)]) (fun _ y _ => on - (intOf y).toNat)
      case atStart => exact ⟨0, rfl, by omega, rfl, K⟩
      case round =>
        clear K
        obtain ⟨k, rfl, hk, rfl, K⟩ := hrel
        have hcg := cell_of_row _ _ 0 _ _ _ (K.get 1 rfl)
        by_cases hlk : k < on
        · obtain ⟨x', y, hx', hy, -⟩ := HAT.out wr K.hb k hlk
          obtain rfl := Option.some.inj hx'
          have hkI : (k : Int) < (on : Int) := by omega
          have hko : k ≤ oc := by omega
          have HCY := Lib.hid (fun W (h : Below w2.heap.size w2 W) => (show EvAt W x k y from by
            obtain ⟨x', e', hx, he', q⟩ := HAT.out W h k hlk
            obtain rfl := Option.some.inj hx
            rw [hy] at he'
            obtain rfl := Option.some.inj he'
            exact q))
          have hpw := Lib.hid (pow_wrap (i := k) (by omega))
          have h2k : 2 ^ k < 2 ^ 62 := Nat.pow_lt_pow_right (by decide) (by omega)
          have hors := Lib.hid (bits_or (pow_lt62 (by omega) (setN_lt L O xs k)) h2k)
          have HS1 := Lib.hid (@setN_yes L O xs k y hy)
          have HS2 := Lib.hid (@setN_no L O xs k y hy)
          clear h2k hy
          generalize setN L O xs k = SK at *
          obtain ⟨yr, yq, ys, yk, yb, yd, ye, yx⟩ := y
          simp only at HCY HS1 HS2
          cases hbb : beforeB L ys xs with
          | true =>
            replace HS1 := Lib.hid (HS1.out hbb)
            have HBE := Lib.hid (fun W (h : Below w2.heap.size w2 W) a b => HBE.out W h a b)
            clear HS2
            go_upto_region 9 with fail
            refine Plan.start (fun W => W.cell? ⟨G, 0, none⟩ = some (.slice (some x) on oc) ∧ W.cell? ⟨(x.add (k * 8)).block, (x.add (k * 8)).off + 2, none⟩ = some (.int .i64 ys) ∧ W.cell? ⟨(x.add (i * 8)).block, (x.add (i * 8)).off + 2, none⟩ = some (.int .i64 xs)) [(0, true), (1, true), (2, true), (3, true), (4, true), (5, true), (6, true), (7, true), (8, true), (9, true), (10, true), (11, true), (12, true), (13, true), (14, true), (15, true), (16, true), (17, false)] (by kernel_rfl) (by kernel_rfl) (by kernel_rfl) (by kernel_rfl) ⟨cell_of_row _ _ 0 _ _ _ (K.drew.get 1 rfl), (HCY.out _ K.drew.hb).2.2.1, (HCX.out _ K.drew.hb).2.2.1⟩ ?_
            simp only [List.map_cons, List.map_nil, List.getElem?_toArray, List.getElem?_cons_zero, List.getElem?_cons_succ]
            replace K := K.drew
            repeat (first | (refine Plan.take ?_ (by rfl) ?_ ?_; rotate_left; (· rintro w9 ⟨u0, u1, u2⟩; go_simp; (try rw [if_neg (by omega)]); all_goals (with_reducible rfl)); simp only [Act.put, List.setIfInBounds_toArray, List.set_cons_zero, List.set_cons_succ]) | (refine Plan.pass (by rfl) ?_; simp only [Act.put, List.setIfInBounds_toArray, List.set_cons_zero, List.set_cons_succ]))
            refine Plan.call (by rfl) 44 _ ?_ (HBE.out _ K.hb ys xs) ?_
            · go_simp
            rintro r9 w9 ⟨rfl, h9⟩
            replace K := K.on h9
            clear h9
            refine ⟨_, rfl, ⟨cell_of_row _ _ 0 _ _ _ (K.get 1 rfl), (HCY.out _ K.hb).2.2.1, (HCX.out _ K.hb).2.2.1⟩, ?_⟩
            simp only [Act.put, List.setIfInBounds_toArray, List.set_cons_zero, List.set_cons_succ]
            refine Plan.ends ?_
            rw [hbb]
            go_wp2_with fail
            go_roundw
            case rel => exact ⟨k + 1, by go_num, by omega, by rw [hpw.out, hors.out, HS1.out], K⟩
            case measure => simp [intOf]; omega
          | false =>
            replace HS2 := Lib.hid (HS2.out hbb)
            clear HS1
            go_upto_region 9 with fail
            refine Plan.start (fun W => W.cell? ⟨G, 0, none⟩ = some (.slice (some x) on oc) ∧ W.cell? ⟨(x.add (k * 8)).block, (x.add (k * 8)).off + 2, none⟩ = some (.int .i64 ys) ∧ W.cell? ⟨(x.add (i * 8)).block, (x.add (i * 8)).off + 2, none⟩ = some (.int .i64 xs)) [(0, true), (1, true), (2, true), (3, true), (4, true), (5, true), (6, true), (7, true), (8, true), (9, true), (10, true), (11, true), (12, true), (13, true), (14, true), (15, true), (16, true), (17, false)] (by kernel_rfl) (by kernel_rfl) (by kernel_rfl) (by kernel_rfl) ⟨cell_of_row _ _ 0 _ _ _ (K.drew.get 1 rfl), (HCY.out _ K.drew.hb).2.2.1, (HCX.out _ K.drew.hb).2.2.1⟩ ?_
            simp only [List.map_cons, List.map_nil, List.getElem?_toArray, List.getElem?_cons_zero, List.getElem?_cons_succ]
            replace K := K.drew
            repeat (first | (refine Plan.take ?_ (by rfl) ?_ ?_; rotate_left; (· rintro w9 ⟨u0, u1, u2⟩; go_simp; (try rw [if_neg (by omega)]); all_goals (with_reducible rfl)); simp only [Act.put, List.setIfInBounds_toArray, List.set_cons_zero, List.set_cons_succ]) | (refine Plan.pass (by rfl) ?_; simp only [Act.put, List.setIfInBounds_toArray, List.set_cons_zero, List.set_cons_succ]))
            refine Plan.call (by rfl) 44 _ ?_ (HBE.out _ K.hb ys xs) ?_
            · go_simp
            rintro r9 w9 ⟨rfl, h9⟩
            replace K := K.on h9
            clear h9
            refine ⟨_, rfl, ⟨cell_of_row _ _ 0 _ _ _ (K.get 1 rfl), (HCY.out _ K.hb).2.2.1, (HCX.out _ K.hb).2.2.1⟩, ?_⟩
            simp only [Act.put, List.setIfInBounds_toArray, List.set_cons_zero, List.set_cons_succ]
            refine Plan.ends ?_
            rw [hbb]
            go_wp2_with fail
            go_roundw
            case rel => exact ⟨k + 1, by go_num, by omega, by rw [HS2.out], K⟩
            case measure => simp [intOf]; omega
        · obtain rfl : k = on := by omega
          have hkI : ¬ (k : Int) < (k : Int) := by omega
          clear hlk hk
          have KB := K.al (.cells #[.int .i64 ((setN L O xs k : Nat) : Int)] 3)
          have hfc := cell_of_row _ _ 1 _ _ _ (K.get 1 rfl)
          go_wp2_with (first
            | (refine KB.apps_one irOk rfl (.tmp 57) (.tmp 59) rfl 1 0 rfl rfl (e := ((setN L O xs k : Nat) : Int)) rfl rfl (by omega) ?_; intro gB cB w5 K5 _; simp only [List.set] at K5; simp only [Act.put, List.setIfInBounds_toArray, List.set_cons_zero, List.set_cons_succ]; clear KB hfc; have K6 := K5.sub (T' := [Env.lst IR (Env.slv gB (i + 1) cB) (i + 1) (FL ++ [((setN L O xs k : Nat) : Int)]), .box G (.cells #[.slice (some x) k oc, fv, .map (some MB), .slice none 0 0] 98 (0, 0)), .box MB (.map #[] 0)]) [1, 2, 3] rfl (by simp) (by simp); have hfc := cell_of_row _ _ 1 _ _ _ (K6.get 1 rfl); have hff := K6.free 1 rfl 1; have K7 := K6.put1 1 rfl 1 (Env.slv gB (i + 1) cB) rfl rfl))
          simp only [List.set] at K7
          rw [HNX.out] at K7
          go_roundw
          case rel => exact ⟨i + 1, _, by go_num, by omega, K7⟩
          case measure => simp [intOf]; omega
    · obtain rfl : i = on := by omega
      have hiI : ¬ (i : Int) < (i : Int) := by omega
      go_wp2_with fail
      go_ret
      have hb2 := hhb.out
      obtain ⟨fa, fc, rfl, lf⟩ := K.anyQ (F := fun _ => False) irOk 0 rfl
      have hGx := hGw.out
      have hMx := hMw.out
      exact ⟨G, rfl, MB, oa, fa, i, oc, fc, K.get 1 rfl, K.get 2 rfl, hG0, hMB0, (lw.cut.mono (fun b _ h => ⟨h.1, by have := h.2; omega, by have := h.2; omega⟩)).on ⟨K.hb.size, fun b _ hlt => K.hb.block b hlt⟩, lf.mono (fun b _ h => ⟨Nat.le_trans hb2.size (h.1.resolve_left id), fun e => h.2.2 _ List.mem_cons_self e, fun e => h.2.2 _ (List.mem_cons_of_mem _ List.mem_cons_self) e⟩), hb2.trans (K.hb.mono hb2.size)⟩
end Go.Proofs.YtnmhnjjehglcfaaGreat.Ents
