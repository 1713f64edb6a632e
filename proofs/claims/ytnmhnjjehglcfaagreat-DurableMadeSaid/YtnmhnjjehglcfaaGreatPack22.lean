/- Texts that belong together, part 22. -/
import Derived.Test.YtnmhnjjehglcfaaGreatPack21
import Derived.Deep.DeepCutAuto

/- The steps that the operations of a history of one block give, and that runs of them are its linearizations. Plain mathematics. -/
namespace Go.Proofs.YtnmhnjjehglcfaaGreat.SrchM
open LinMath HisMath ModMath CmdMath
def impB (n : Int) (x : Ev) : Bool := x.ret && decide (x.err = 0) && !decide (checkC n x.kind x.block x.data.size = 0)
/-- a history of one block, nothing of which was answered that cannot be -/
structure One (L : List Ev) : Prop where
  right : Right L
  len : L.length ≤ 400
  rest : restE L 0 = L
  imp : ∀ x ∈ opsE L L.length, impB 1 x = false
section
variable {L : List Ev} {v u : ByteArray}
theorem One.blk (h : One L) : ∀ x ∈ opsE L L.length, x.block = 0 ∧ (x.kind = 1 ∨ x.kind = 2 ∨ x.kind = 3) := fun x hx => by
  have := rest_ops h.right 0 x (by rw [show ((0 : Nat) : Int) = 0 from rfl, h.rest]; exact hx)
  exact this
theorem Run.ord {S : List Stp} {D D' : Nat} {l : List Nat} (h : Run S D v l D' u) : l.Pairwise (fun i j => ¬ bf S j i) := by
  induction h with
  | nil => exact .nil
  | @cons D v i a l D' v' ha hd hp hr h ih =>
    refine List.pairwise_cons.2 ⟨fun j hj hb => ?_, ih⟩
    have h1 := (h.new.2 j hj).1
    rw [bit_or, Bool.or_eq_false_iff] at h1
    have := hp j hb
    rw [h1.1] at this; cases this
/-! a read behind all others -/
end
end Go.Proofs.YtnmhnjjehglcfaaGreat.SrchM

/- The walk of the document's Check of linearizations. -/
namespace Go.Proofs.YtnmhnjjehglcfaaGreat.LinMath
open HisMath ModMath
end Go.Proofs.YtnmhnjjehglcfaaGreat.LinMath
namespace Go.Proofs.YtnmhnjjehglcfaaGreat.Ents
open Go.RowKit Plan HisMath LinMath ModMath Rws Env LayMath
end Go.Proofs.YtnmhnjjehglcfaaGreat.Ents

/- The walks of the document's changes, value, ahead and point. -/
namespace Go.Proofs.YtnmhnjjehglcfaaGreat.Ents
open Go.RowKit Plan HisMath LinMath DurMath ModMath CmdMath Rws Env LayMath
set_option maxHeartbeats 8000000 in
set_option maxRecDepth 20000 in
theorem refChanges_any (k b c : Int) (s : ByteArray) (w : World) :
    Calls Tryz.prog 64 #[cmdV k b s, .int .i64 c] w fun r w' => r = .returned (.bool (chK k b c)) ∧ Below w.heap.size w w' := by
  have K := (Env.start w).al (cmdRow k b s)
  unfold chK
  by_cases h0 : b = c
  · subst h0
    have hc : k = 2 ∨ k = 3 ∨ (k ≠ 2 ∧ k ≠ 3) := by omega
    rcases hc with rfl | rfl | ⟨h1, h2⟩
    · go_enter Tryz.func64, Tryz.ntmps64
      obtain ⟨c0, c1, c2⟩ := cmd_cells (K.get 0 rfl)
      go_wp2_with fail
      go_ret
      exact ⟨by simp, K.hb⟩
    · go_enter Tryz.func64, Tryz.ntmps64
      obtain ⟨c0, c1, c2⟩ := cmd_cells (K.get 0 rfl)
      go_wp2_with fail
      go_ret
      exact ⟨by simp, K.hb⟩
    · have e1 : (k == 2) = false := by simpa using h1
      have e2 : (k == 3) = false := by simpa using h2
      rw [decide_eq_false h1, decide_eq_false h2]
      go_enter Tryz.func64, Tryz.ntmps64
      obtain ⟨c0, c1, c2⟩ := cmd_cells (K.get 0 rfl)
      go_wp2_with fail
      go_ret
      exact ⟨by simp, K.hb⟩
  · have e1 : (b == c) = false := by simpa using h0
    rw [decide_eq_false h0]
    go_enter Tryz.func64, Tryz.ntmps64
    obtain ⟨c0, c1, c2⟩ := cmd_cells (K.get 0 rfl)
    go_wp2_with fail
    go_ret
    exact ⟨by simp, K.hb⟩
set_option maxHeartbeats 8000000 in
set_option maxRecDepth 20000 in
theorem refDValue_any (k b : Int) (s : ByteArray) (w : World) :
    Calls Tryz.prog 67 #[cmdV k b s] w fun r w' => r = .returned (.string (valK k s)) ∧ Below w.heap.size w w' := by
  have K := (Env.start w).al (cmdRow k b s)
  have HZ := Lib.hid (fun W => refZero_any W)
  unfold valK
  by_cases h1 : k = 3
  · subst h1
    rw [if_pos rfl]
    go_enter Tryz.func67, Tryz.ntmps67
    obtain ⟨c0, c1, c2⟩ := cmd_cells (K.get 0 rfl)
    go_wp2_with (first
      | (go_at_call 45; ((with_reducible refine (HZ.out _).mono ?_); rintro r9 w2 ⟨rfl, h9⟩; replace K := K.on h9; clear h9)))
    go_ret
    exact ⟨rfl, K.hb⟩
  · rw [if_neg h1]
    have e1 : (k == 3) = false := by simpa using h1
    go_enter Tryz.func67, Tryz.ntmps67
    obtain ⟨c0, c1, c2⟩ := cmd_cells (K.get 0 rfl)
    go_wp2_with fail
    go_ret
    exact ⟨rfl, K.hb⟩
set_option maxHeartbeats 8000000 in
set_option maxRecDepth 20000 in
theorem refAhead_any (F : Nat → Prop) (L : List Ev) (a : Option Addr) (n c : Nat) (s : Int) (m : Nat) (w : World) (hl : VList w F a n c L) (hmn : m ≤ n) :
    Calls Tryz.prog 65 #[.slice a n c, .int .i64 s, .int .i64 (m : Int)] w fun r w' => r = .returned (.bool (ahB L s m)) ∧ Below w.heap.size w w' := by
  have hlen := hl.length
  have HAT := Lib.hid (fun W (h : Below w.heap.size w W) i (hi : i < n) => ev_at (hl.same h) i hi)
  have hcp := hl.cap
  unfold maxLen at hcp
  have hb := Below.refl w.heap.size w
  have HYES := Lib.hid (fun (j : Nat) (e : Ev) (h1 : L[j]? = some e) (h2 : j < m) (h3 : ahP s e = true) => ah_yes h1 h2 h3)
  have HNO := Lib.hid (fun h => @ah_no L s m h)
  generalize ahB L s m = R at *
  clear hl hlen
  go_enter Tryz.func65, Tryz.ntmps65
  go_wp2_with fail
  go_loopw [7] (fun x wr => ∃ j : Nat, x = .int .i64 (j : Int) ∧ j ≤ m ∧ RowKit.Hid (∀ (i : Nat) (e : Ev), i < j → L[i]? = some e → ahP s e = false) ∧ Below w.heap.size w wr) (fun x _ => m - (intOf x).toNat)
  case atStart => exact ⟨0, rfl, by omega, Lib.hid (fun i _ hi => absurd hi (Nat.not_lt_zero _)), hb⟩
  case round =>
    clear hb
    obtain ⟨j, rfl, hj, hall, hb⟩ := hrel
    by_cases hlt : j < m
    · obtain ⟨x, e, rfl, he, c0, c1, c2, c3, c4, c5, c6, c7⟩ := HAT.out wr hb j (by omega)
      have hjI : (j : Int) < (m : Int) := by omega
      have hjn : (j : Int) < (n : Int) := by omega
      have HE := Lib.hid he
      have HN : (ahP s e = false) → RowKit.Hid (∀ (i : Nat) (x : Ev), i < j + 1 → L[i]? = some x → ahP s x = false) := fun hf => Lib.hid (fun i x hi hx => by
        rcases Nat.lt_or_ge i j with h9 | h9
        · exact hall.out i x h9 hx
        · obtain rfl : i = j := by omega
          rw [HE.out] at hx
          cases hx
          exact hf)
      have HY := Lib.hid (fun h => HYES.out j e HE.out hlt h)
      obtain ⟨er, eq, es, ek, eb, ed, ee, ex⟩ := e
      simp only at c0 c1 c2 c3 c4 c5 c6 c7
      clear he HE c1 c3 c4 c5 c7
      cases er with
      | false =>
        replace HN := HN (by simp [ahP])
        clear HY
        go_wp2_with fail
        go_roundw
        case rel => exact ⟨j + 1, by go_num, by omega, HN, hb⟩
        case measure => simp [intOf]; omega
      | true =>
        by_cases hs : es = s
        · subst hs
          by_cases hz : ee = 0
          · subst hz
            replace HY := Lib.hid (HY.out (by simp [ahP]))
            clear HN
            go_wp2_with fail
            go_ret
            exact ⟨ret_b HY.out.symm, hb⟩
          · have d1 : (ee == 0) = false := by simpa using hz
            replace HN := HN (by simp [ahP, hz])
            clear HY
            go_wp2_with fail
            go_roundw
            case rel => exact ⟨j + 1, by go_num, by omega, HN, hb⟩
            case measure => simp [intOf]; omega
        · have d1 : (es == s) = false := by simpa using hs
          replace HN := HN (by simp [ahP, hs])
          clear HY
          go_wp2_with fail
          go_roundw
          case rel => exact ⟨j + 1, by go_num, by omega, HN, hb⟩
          case measure => simp [intOf]; omega
    · obtain rfl : j = m := by omega
      have hjI : ¬ (j : Int) < (j : Int) := by omega
      have HR := Lib.hid (HNO.out hall.out)
      go_wp2_with fail
      go_ret
      exact ⟨ret_b HR.out.symm, hb⟩
set_option maxHeartbeats 8000000 in
set_option maxRecDepth 20000 in
theorem refPoint_any (F : Nat → Prop) (L : List Ev) (a : Option Addr) (n c : Nat) (w : World) (hl : VList w F a n c L) :
    Calls Tryz.prog 63 #[.slice a n c] w fun r w' => r = .returned (.int .i64 (ptE L n : Int)) ∧ Below w.heap.size w w' := by
  have hlen := hl.length
  have HAT := Lib.hid (fun W (h : Below w.heap.size w W) i (hi : i < n) => ev_at (hl.same h) i hi)
  have hcp := hl.cap
  unfold maxLen at hcp
  have hb := Below.refl w.heap.size w
  clear hl hlen
  go_enter Tryz.func63, Tryz.ntmps63
  go_wp2_with fail
  go_loopw [3, 4] (fun p x wr => ∃ j : Nat, p = .int .i64 (ptE L j : Int) ∧ x = .int .i64 (j : Int) ∧ j ≤ n ∧ Below w.heap.size w wr) (fun _ x _ => n - (intOf x).toNat)
  case atStart => exact ⟨0, rfl, rfl, by omega, hb⟩
  case round =>
    clear hb
    obtain ⟨j, rfl, rfl, hj, hb⟩ := hrel
    by_cases hlt : j < n
    · obtain ⟨x, e, rfl, he, c0, c1, c2, c3, c4, c5, c6, c7⟩ := HAT.out wr hb j hlt
      have hjI : (j : Int) < (n : Int) := by omega
      have HQ := Lib.hid (pt_next he)
      have HES := Lib.hid (fun W (h : Below w.heap.size w W) => (show W.cell? ⟨(x.add (j * 8)).block, (x.add (j * 8)).off + 2, none⟩ = some (.int .i64 e.serial) from by
        obtain ⟨x', e', hx, he', q0, q1, q2, _⟩ := HAT.out W h j hlt
        obtain rfl := Option.some.inj hx
        rw [he] at he'
        obtain rfl := Option.some.inj he'
        exact q2))
      obtain ⟨er, eq, es, ek, eb, ed, ee, ex⟩ := e
      simp only at c0 c1 c2 c3 c4 c5 c6 c7 HQ HES
      clear he c1 c2 c4 c5 c7
      generalize hP0 : ptE L j = P0 at *
      go_upto_region 5 with fail
      go_cut [34] (fun s wx => ∃ q : Bool, s = .bool q ∧ wr = wx ∧ q = flB ⟨er, eq, es, ek, eb, ed, ee, ex⟩)
      case first =>
        cases er with
        | false =>
          go_wp2_with fail
          go_meet
          exact ⟨false, rfl, rfl, rfl⟩
        | true =>
          by_cases hk : ek = 4
          · subst hk
            obtain ⟨q, hq⟩ : ∃ q, (ee == 0) = q := ⟨_, rfl⟩
            go_wp2_with fail
            go_meet
            exact ⟨q, rfl, rfl, by rw [← hq, show (ee == 0) = decide (ee = 0) from rfl]; simp [flB]⟩
          · have d1 : (ek == 4) = false := by simpa using hk
            go_wp2_with fail
            go_meet
            exact ⟨false, rfl, rfl, by simp [flB, hk]⟩
      case rest =>
        obtain ⟨q, rfl, rfl, hq⟩ := hcut
        clear c0 c3 c6
        cases q with
        | false =>
          have HN := HQ.out.2 hq.symm
          clear HQ hq HES
          go_wp2_with fail
          go_roundw
          case rel => exact ⟨j + 1, by rw [HN], by go_num, by omega, hb⟩
          case measure => simp [intOf]; omega
        | true =>
          have HN := Lib.hid (HQ.out.1 hq.symm)
          clear HQ hq
          go_wp2_with fail
          go_loopw [3, 5] (fun p y wr => ∃ k : Nat, p = .int .i64 ((max P0 (inE L es k) : Nat) : Int) ∧ y = .int .i64 (k : Int) ∧ k ≤ j ∧ Below w.heap.size w wr) (fun _ y _ => j - (intOf y).toNat)
          case atStart => exact ⟨0, by simp [inE], rfl, by omega, hb⟩
          case round =>
            clear hb
            obtain ⟨k, rfl, rfl, hk, hb⟩ := hrel
            by_cases hkj : k < j
            · obtain ⟨x2, y, e9, hy, b0, b1, b2, b3, b4, b5, b6, b7⟩ := HAT.out _ hb k (by omega)
              obtain rfl := Option.some.inj e9
              have hkI : (k : Int) < (j : Int) := by omega
              have hkn : (k : Int) < (n : Int) := by omega
              have HK := Lib.hid (in_next (s := es) hy)
              have HYC := Lib.hid (fun W (h : Below w.heap.size w W) => (show EvAt W x k y from by
                obtain ⟨x', e', hx, he', q⟩ := HAT.out W h k (by omega)
                obtain rfl := Option.some.inj hx
                rw [hy] at he'
                obtain rfl := Option.some.inj he'
                exact q))
              obtain ⟨yr, yq, ys, yk, yb, yd, ye, yx⟩ := y
              clear hy b0 b1 b2 b3 b4 b5 b6 b7 e9
              generalize hP1 : max P0 (inE L es k) = P1 at *
              have hqI : ∃ q, invP es (⟨yr, yq, ys, yk, yb, yd, ye, yx⟩ : Ev) = q := ⟨_, rfl⟩
              obtain ⟨q, hq⟩ := hqI
              obtain ⟨q2, hq2⟩ : ∃ q2, (ys == es) = q2 := ⟨_, rfl⟩
              have hqv : q = (!yr && q2) := by rw [← hq, ← hq2]; rfl
              go_upto_region 9 with fail
              have hbd := hb.drew
              clear hb
              refine Plan.start (fun W => W.cell? (x.add (k * 8)) = some (.bool yr) ∧ W.cell? ⟨(x.add (k * 8)).block, (x.add (k * 8)).off + 2, none⟩ = some (.int .i64 ys) ∧ W.cell? ⟨(x.add (j * 8)).block, (x.add (j * 8)).off + 2, none⟩ = some (.int .i64 es)) [(0, true), (1, true), (2, true), (3, true), (4, true), (5, true), (6, true), (7, true), (8, true), (9, true), (10, true), (11, true), (12, true), (13, true), (14, true), (15, true), (16, true), (17, true), (18, true)] (by kernel_rfl) (by kernel_rfl) (by kernel_rfl) (by kernel_rfl) ⟨(HYC.out _ hbd).1, (HYC.out _ hbd).2.2.1, HES.out _ hbd⟩ ?_
              simp only [List.map_cons, List.map_nil, List.getElem?_toArray, List.getElem?_cons_zero, List.getElem?_cons_succ]
              generalize World.drew _ = w8 at *
              cases yr with
              | true =>
                have hqq : q = false := hqv
                clear hqv
                subst hqq
                repeat (first | (refine Plan.take ?_ (by rfl) ?_ ?_; rotate_left; (· rintro w9 ⟨u0, u1, u2⟩; go_simp; (try rw [if_neg (by omega)]); all_goals (with_reducible rfl)); simp only [Act.put, List.setIfInBounds_toArray, List.set_cons_zero, List.set_cons_succ]) | (refine Plan.pass (by rfl) ?_; simp only [Act.put, List.setIfInBounds_toArray, List.set_cons_zero, List.set_cons_succ]))
                refine Plan.ends ?_
                have HK2 := HK.out.2 hq
                clear HK
                go_wp2_with fail
                go_roundw
                case rel => exact ⟨k + 1, by rw [HK2, hP1], by go_num, by omega, hbd⟩
                case measure => simp [intOf]; omega
              | false =>
                have hqq : q = q2 := by rw [hqv]; rfl
                clear hqv
                subst hqq
                repeat (first | (refine Plan.take ?_ (by rfl) ?_ ?_; rotate_left; (· rintro w9 ⟨u0, u1, u2⟩; go_simp; (try rw [if_neg (by omega)]); all_goals (with_reducible rfl)); simp only [Act.put, List.setIfInBounds_toArray, List.set_cons_zero, List.set_cons_succ]) | (refine Plan.pass (by rfl) ?_; simp only [Act.put, List.setIfInBounds_toArray, List.set_cons_zero, List.set_cons_succ]))
                refine Plan.ends ?_
                cases q with
                | false =>
                  have HK2 := HK.out.2 hq
                  clear HK
                  go_wp2_with fail
                  go_roundw
                  case rel => exact ⟨k + 1, by rw [HK2, hP1], by go_num, by omega, hbd⟩
                  case measure => simp [intOf]; omega
                | true =>
                  have HK2 := HK.out.1 hq
                  clear HK
                  have HMX := Lib.hid (show (if P1 < k then (k : Int) else (P1 : Int)) = ((max P0 (inE L es (k + 1)) : Nat) : Int) from by
                    rw [HK2, ← Nat.max_assoc, hP1]
                    split <;> omega)
                  clear HK2
                  go_wp2_with fail
                  go_roundw
                  case rel => exact ⟨k + 1, by first | (rw [← HMX.out]; done) | exact congrArg (Value.int .i64) (by have h9 := HMX.out; rw [← h9]; split <;> omega), by go_num, by omega, hbd⟩
                  case measure => simp [intOf]; omega
            · obtain rfl : k = j := by omega
              have hkI : ¬ (k : Int) < (k : Int) := by omega
              go_wp2_with fail
              go_roundw
              case rel => exact ⟨k + 1, by rw [HN.out], by go_num, by omega, hb⟩
              case measure => simp [intOf]; omega
    · obtain rfl : j = n := by omega
      have hjI : ¬ (j : Int) < (j : Int) := by omega
      go_wp2_with fail
      go_ret
      exact ⟨rfl, hb⟩
end Go.Proofs.YtnmhnjjehglcfaaGreat.Ents

/- What the laws' maker of histories leaves; what is known of such histories. -/
namespace Go.Proofs.YtnmhnjjehglcfaaGreat.LinMath
open HisMath ModMath CmdMath
def MadeH (n m : Nat) (wrong : Bool) (X : List Ev) : Prop := ∃ P A B s, LMade n m wrong X P A B s
section
variable {n m : Nat} {wrong : Bool} {X : List Ev}
theorem newB_len {n : Nat} (h1 : 1 ≤ n) (h3 : n ≤ 3) : (newB (n : Int)).length = n := by rw [newB_is h1 (by omega), List.length_replicate]
theorem MadeH.right (h : MadeH n m wrong X) : Right X := by obtain ⟨P, A, B, s, h⟩ := h; exact h.made.right
theorem MadeH.len (h : MadeH n m wrong X) : 2 * (opsE X X.length).length ≤ m + 5 ∧ X.length ≤ m + 5 := by obtain ⟨P, A, B, s, h⟩ := h; exact h.ops
theorem made_sizes (h1 : 1 ≤ n) (h3 : n ≤ 3) {Y : List Ev} (hR : Right Y) (hl : Y.length ≤ 400) : sizesE (newB (n : Int)) Y = 0 := by
  have hlen := newB_len h1 h3
  refine sizes_good (check_right hR (by omega) (by omega) hl) fun i s _ hs => ?_
  rw [newB_is h1 (by omega), List.getElem?_replicate] at hs
  split at hs
  · obtain rfl := Option.some.inj hs
    rfl
  · cases hs
theorem small_of {B : List ByteArray} {Y : List Ev} (hR : Right Y) (h : (opsE Y Y.length).length ≤ 20) : smallP B Y := fun i _ => by
  unfold aloneE
  rw [ops_blk 0 (right_rest hR _), List.length_map]
  unfold restE
  rw [ops_part hR (rest_byCmd _)]
  exact Nat.le_trans (List.length_filter_le _ _) h
theorem can_made {B : List ByteArray} {Y : List Ev} (hs : sizesE B Y = 0) (h : (opsE Y Y.length).length ≤ 20) : CanP B Y ↔ ∃ xs, LinX B Y xs := by
  have hR := (sizes_parts hs).1
  rw [← orders_iff hR]
  unfold CanP
  constructor
  · rintro ⟨_, _, o, ho⟩
    exact ⟨o, (lin_okE hs).1 ho⟩
  · rintro ⟨o, ho⟩
    exact ⟨hs, small_of hR h, o, (lin_okE hs).2 ho⟩
/-- one block alone -/
theorem MadeH.one (h : MadeH 1 m wrong X) : restE X 0 = X := by
  obtain ⟨P, A, B, s, h⟩ := h
  unfold restE
  rw [List.filter_eq_self]
  intro x hx
  obtain ⟨h1, h2⟩ := h.cmds x hx
  obtain ⟨h3, _, h4⟩ := check_zero h1
  have h5 := h4 h2
  have h6 : x.block = 0 := by omega
  have h7 : x.kind = 1 ∨ x.kind = 2 ∨ x.kind = 3 := by omega
  unfold restB
  rw [h6]
  rcases h7 with h7 | h7 | h7 <;> simp [h7]
theorem MadeH.single (h : MadeH 1 m wrong X) (hm : m ≤ 30) : sizesE [zeroC] X = 0 ∧ singleB zeroC X = true ∧ (CanP [zeroC] X ↔ ∃ o, linE [zeroC] X o = 0) := by
  have hR := h.right
  have hl := h.len
  have hs : sizesE [zeroC] X = 0 := made_sizes (n := 1) (by decide) (by decide) hR (by omega)
  refine ⟨hs, ?_, ?_⟩
  · unfold singleB
    simp only [hs, h.one, decide_true, Bool.true_and, decide_eq_true_eq]
    omega
  · unfold CanP
    exact ⟨fun h => h.2.2, fun h => ⟨hs, small_of hR (by omega), h⟩⟩
theorem ops_take {L : List Ev} (hR : Right L) (k : Nat) : (opsE (L.take k) (L.take k).length).length ≤ (opsE L L.length).length := by
  rw [ops_right (right_take hR k) _ (Nat.le_refl _), ops_right hR _ (Nat.le_refl _), List.length_map, List.length_map, List.take_length, List.take_length]
  exact ((List.take_sublist k L).filter _).length_le
theorem MadeH.front (h : MadeH n m wrong X) (h1 : 1 ≤ n) (h3 : n ≤ 3) (hm : m ≤ 30) (k : Nat) (hc : CanP (newB (n : Int)) X) : CanP (newB (n : Int)) (X.take k) := by
  have hR := h.right
  have hl := h.len
  rw [can_made (made_sizes h1 h3 hR (by omega)) (by omega)] at hc
  obtain ⟨xs, hx⟩ := hc
  have ho := ops_take hR k
  have hlt : (X.take k).length ≤ X.length := by rw [List.length_take]; omega
  rw [can_made (made_sizes h1 h3 (right_take hR k) (by omega)) (by omega)]
  exact lin_front hR hx k
theorem MadeH.good (h : MadeH n m false X) (h1 : 1 ≤ n) (h3 : n ≤ 3) (hm : m ≤ 30) : CanP (newB (n : Int)) X := by
  have hR := h.right
  have hl := h.len
  rw [can_made (made_sizes h1 h3 hR (by omega)) (by omega)]
  obtain ⟨P, A, B, s, h⟩ := h
  exact h.lin rfl
end
end Go.Proofs.YtnmhnjjehglcfaaGreat.LinMath
namespace Go.Proofs.YtnmhnjjehglcfaaGreat.Ents
open Go.RowKit Plan HisMath LinMath Rws Env LayMath
/-- what the maker of histories leaves -/
def LMadePost (n m : Nat) (wrong : Bool) (w : World) (r : Ending) (w' : World) : Prop :=
  ∃ (a : Option Addr) (k c : Nat) (X : List Ev), r = .returned (.slice a k c) ∧ VList w' (fun b => w.heap.size ≤ b) a k c X ∧ Below w.heap.size w w' ∧ MadeH n m wrong X
structure EventsOk : Prop where
  made : ∀ (N m0 : Nat) (wrong : Bool) (a : Option Addr) (n c : Nat) (Z : List Int) (w : World), IsRow .i64 w a n c Z → n ≤ 300 → 1 ≤ N → N ≤ 3 → m0 ≤ 12 →
    Calls Tryz.prog 15 #[.slice a n c, .int .i64 (N : Int), .int .i64 (m0 : Int), .bool wrong] w (LMadePost N (2 * m0) wrong w)
end Go.Proofs.YtnmhnjjehglcfaaGreat.Ents

/- The walk of ModelReads. -/
namespace Go.Proofs.YtnmhnjjehglcfaaGreat.Ents
open Go.RowKit Plan ModMath CmdMath Rws Env LayMath
theorem made16 (w : World) : (Instr.makeSlice 64 (.int .i64 16) (.int .i64 16)).run Tryz.prog w = .ok (.slice (some ⟨w.heap.size, 0, none⟩) 16 16) (w.alloc (.cells (madeCells #[.int .u8 0] 16) 5)) :=
  run_make_row' (P := Tryz.prog) 64 5 (.int .u8 0) 1 Tryz.underlying64 info_byteC rfl .i64 .i64 16 (by omega) (by omega) w
theorem conv16 (w : World) : (convert 64 9 (.slice (some ⟨w.heap.size, 0, none⟩) 16 16)).run Tryz.prog (w.alloc (.cells (madeCells #[.int .u8 0] 16) 5)) = .ok (.string zeroC) (w.alloc (.cells (madeCells #[.int .u8 0] 16) 5)) := by
  have h1 := run_convert_bytes_back (P := Tryz.prog) (w.alloc (.cells (madeCells #[.int .u8 0] 16) 5)) 64 9 5 ⟨w.heap.size, 0, none⟩ 16 (List.replicate 16 0) Tryz.underlying64 Tryz.underlying5 Tryz.underlying9 (fun j hj => by
    have hj' : j < 16 := by simpa using hj
    have e : (⟨w.heap.size, 0, none⟩ : Addr).add j = ⟨w.heap.size, j, none⟩ := by unfold Addr.add; split <;> simp_all
    rw [e, (World.rowIs_made w (.int .u8 0) 16 5).cell hj', List.getElem_replicate]
    rfl)
  rwa [List.length_replicate] at h1
theorem newB_is {N : Nat} (h1 : 1 ≤ N) (h2 : N ≤ 128) : newB (N : Int) = List.replicate N zeroC := by
  unfold newB; rw [if_neg (by omega), Int.toNat_natCast]
end Go.Proofs.YtnmhnjjehglcfaaGreat.Ents
