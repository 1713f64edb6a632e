/- Texts that belong together, part 13. -/
import Derived.Test.YtnmhnjjehglcfaaGreatPack12

/- The walk of the document's Restrict. -/
namespace Go.Proofs.YtnmhnjjehglcfaaGreat.HisMath
def restB (b : Int) (x : Ev) : Bool := decide (x.block = b) && (decide (x.kind = 1) || decide (x.kind = 2) || decide (x.kind = 3))
def restE (L : List Ev) (b : Int) : List Ev := L.filter (restB b)
theorem restE_next {L : List Ev} {b : Int} {j : Nat} {e : Ev} (h : L[j]? = some e) : (restB b e = true → restE (L.take (j + 1)) b = restE (L.take j) b ++ [e]) ∧ (restB b e = false → restE (L.take (j + 1)) b = restE (L.take j) b) := by
  have h1 : L.take (j + 1) = L.take j ++ [e] := by rw [List.take_succ_eq_append_getElem (List.getElem?_eq_some_iff.1 h).1, (List.getElem?_eq_some_iff.1 h).2]
  unfold restE
  rw [h1, List.filter_append]
  exact ⟨fun hp => by simp [hp], fun hp => by simp [hp]⟩
end Go.Proofs.YtnmhnjjehglcfaaGreat.HisMath
namespace Go.Proofs.YtnmhnjjehglcfaaGreat.Ents
open Go.RowKit Plan HisMath Rws Env LayMath
def VPost (w : World) (X : List Ev) (r : Ending) (w' : World) : Prop :=
  ∃ a n c, r = .returned (.slice a n c) ∧ VList w' (fun b => w.heap.size ≤ b) a n c X ∧ Below w.heap.size w w'
/-- the list is the call's own -/
def OVPost (w : World) (X : List Ev) (r : Ending) (w' : World) : Prop :=
  ∃ v, r = .returned v ∧ (∃ n, w'.ownsRow w.heap.size VR.et VR.sz v n (VR.all X)) ∧ Below w.heap.size w w'
theorem own_vpost {w : World} {X : List Ev} {r : Ending} {w' : World} (h : OVPost w X r w') : VPost w X r w' := by
  obtain ⟨v, rfl, ⟨n, ho⟩, hb⟩ := h
  obtain ⟨a9, c9, e9, l9⟩ := owns_list (F := fun b => w.heap.size ≤ b) vrOk ho (fun b h9 => (ho.lt b h9).1)
  subst e9
  exact ⟨_, _, _, rfl, l9, hb⟩
end Go.Proofs.YtnmhnjjehglcfaaGreat.Ents

/- The walk of the document's Pending. -/
namespace Go.Proofs.YtnmhnjjehglcfaaGreat.HisMath
end Go.Proofs.YtnmhnjjehglcfaaGreat.HisMath
namespace Go.Proofs.YtnmhnjjehglcfaaGreat.Ents
open Go.RowKit Plan HisMath Rws Env LayMath
end Go.Proofs.YtnmhnjjehglcfaaGreat.Ents

/- The walk of the document's Operations. -/
namespace Go.Proofs.YtnmhnjjehglcfaaGreat.HisMath
/-- an invocation with what its return says, if there is one -/
def opOf (L : List Ev) (e : Ev) : Ev := match (if 0 ≤ retI L e.serial then L[(retI L e.serial).toNat]? else none) with
  | some y => { e with ret := true, err := y.err, res := y.res }
  | none => e
def opsB (L : List Ev) (j : Nat) (e : Ev) : Bool := !e.ret && decide (invI (L.take j) e.serial < 0)
def opsE (L : List Ev) : Nat → List Ev
  | 0 => []
  | m + 1 => match L[m]? with
    | some e => if opsB L m e then opsE L m ++ [opOf L e] else opsE L m
    | none => opsE L m
theorem ops_next {L : List Ev} {j : Nat} {e : Ev} (h : L[j]? = some e) : (opsB L j e = true → opsE L (j + 1) = opsE L j ++ [opOf L e]) ∧ (opsB L j e = false → opsE L (j + 1) = opsE L j) :=
  ⟨fun hp => by simp [opsE, h, hp], fun hp => by simp [opsE, h, hp]⟩
end Go.Proofs.YtnmhnjjehglcfaaGreat.HisMath
namespace Go.Proofs.YtnmhnjjehglcfaaGreat.Ents
open Go.RowKit Plan HisMath Rws Env LayMath
theorem bool_info1 : (Tryz.prog.info? 4).map (·.size) = some 1 := by kernel_rfl
theorem result_info2 : (Tryz.prog.info? 53).map (·.size) = some 2 := by kernel_rfl
set_option maxHeartbeats 8000000 in
set_option maxRecDepth 20000 in
theorem refOps_any (F : Nat → Prop) (L : List Ev) (a : Option Addr) (n c : Nat) (w : World) (hl : VList w F a n c L) (hm : n ≤ 100000) :
    Calls Tryz.prog 41 #[.slice a n c] w (VPost w (opsE L n)) := by
  have hlen := hl.length
  obtain ⟨hcp, hcm⟩ := hl.cap
  unfold maxLen at hcm
  have HAT := Lib.hid (fun W (h : Below w.heap.size w W) i (hi : i < n) => ev_at (hl.same h) i hi)
  have HI0 := Lib.hid (fun W (h : Below w.heap.size w W) j (hj : j ≤ n) s => refInvoked_any _ (L.take j) a j c s W ((hl.front vrOk j hj).same h))
  have HR0 := Lib.hid (fun W (h : Below w.heap.size w W) s => refReturned_any _ L a n c s W (hl.same h))
  have K := (Env.start w).nil VR
  unfold VPost
  clear hl
  go_enter Tryz.func41, Tryz.ntmps41
  go_wp2_with fail
  go_loopw [3, 4] (fun v x wr => ∃ (j k : Nat) (u : Value), x = .int .i64 (j : Int) ∧ j ≤ n ∧ v = u ∧ k ≤ j ∧ Env w wr [Env.lst VR u k (opsE L j)]) (fun _ x _ => n - (intOf x).toNat)
  case atStart => exact ⟨0, 0, _, rfl, by omega, rfl, by omega, K⟩
  case round =>
    clear K
    obtain ⟨j, k, u, rfl, hj, rfl, hk, K⟩ := hrel
    by_cases hlt : j < n
    · obtain ⟨x, e, rfl, he, c0, c1, c2, c3, c4, c5, c6, c7⟩ := HAT.out wr K.hb j hlt
      have hjI : (j : Int) < (n : Int) := by omega
      have hjc : j ≤ c := by omega
      have HQ := Lib.hid (ops_next he)
      have HC := Lib.hid (fun W (h : Below w.heap.size w W) => (show EvAt W x j e from by
        obtain ⟨x', e', hx, he', q⟩ := HAT.out W h j hlt
        obtain rfl := Option.some.inj hx
        rw [he] at he'
        obtain rfl := Option.some.inj he'
        exact q))
      have HI := Lib.hid (fun W (h : Below w.heap.size w W) => HI0.out W h j (by omega) e.serial)
      have HR := Lib.hid (fun W (h : Below w.heap.size w W) => HR0.out W h e.serial)
      have HS := Lib.hid (fun (h : 0 ≤ retI L e.serial) => seek_in h)
      have HO := Lib.hid (Eq.refl (opOf L e))
      generalize hO : opOf L e = O at *
      unfold opOf at hO
      rw [show seek (retP e.serial) L = retI L e.serial from rfl] at HS
      obtain ⟨er, eq, es, ek, eb, ed, ee, ex⟩ := e
      simp only at c0 c1 c2 c3 c4 c5 c6 c7 HC HI HR HS hO
      clear he HO
      generalize opsE L j = RX at *
      generalize retI L es = r1 at *
      cases er with
      | true =>
        clear c1 c3 c4 c5 c6 c7 hO HS
        replace HQ := Lib.hid (HQ.out.2 (by simp [opsB]))
        go_upto_region 5 with fail
        refine Plan.start (fun W => W.cell? (x.add (j * 8)) = some (.bool true) ∧ W.cell? ⟨(x.add (j * 8)).block, (x.add (j * 8)).off + 2, none⟩ = some (.int .i64 es)) [(0, true), (1, true), (2, true), (3, true), (4, true), (5, true), (6, true), (7, true), (8, true), (9, true), (10, true), (11, true), (12, true), (13, true), (14, false), (15, true), (16, true)] (by kernel_rfl) (by kernel_rfl) (by kernel_rfl) (by kernel_rfl) ⟨c0, c2⟩ ?_
        simp only [List.map_cons, List.map_nil, List.getElem?_toArray, List.getElem?_cons_zero, List.getElem?_cons_succ]
        replace K := K.drew
        repeat (first | (refine Plan.take ?_ (by rfl) ?_ ?_; rotate_left; (· rintro w9 ⟨u0, u1⟩; go_simp; (try rw [if_neg (by omega)]); all_goals (with_reducible rfl)); simp only [Act.put, List.setIfInBounds_toArray, List.set_cons_zero, List.set_cons_succ]) | (refine Plan.pass (by rfl) ?_; simp only [Act.put, List.setIfInBounds_toArray, List.set_cons_zero, List.set_cons_succ]))
        refine Plan.pass' (by rfl) ⟨(HC.out _ K.hb).1, (HC.out _ K.hb).2.2.1⟩ ?_
        simp only [Act.put, List.setIfInBounds_toArray, List.set_cons_zero, List.set_cons_succ]
        repeat (first | (refine Plan.take ?_ (by rfl) ?_ ?_; rotate_left; (· rintro w9 ⟨u0, u1⟩; go_simp; (try rw [if_neg (by omega)]); all_goals (with_reducible rfl)); simp only [Act.put, List.setIfInBounds_toArray, List.set_cons_zero, List.set_cons_succ]) | (refine Plan.pass (by rfl) ?_; simp only [Act.put, List.setIfInBounds_toArray, List.set_cons_zero, List.set_cons_succ]))
        refine Plan.ends ?_
        rw [← HQ.out] at K
        go_wp2_with fail
        go_roundw
        case rel => exact ⟨j + 1, k, _, by go_num, by omega, rfl, by omega, K⟩
        case measure => simp [intOf]; omega
      | false =>
        by_cases h1 : invI (L.take j) es < 0
        · replace HQ := Lib.hid (HQ.out.1 (by simp [opsB, h1]))
          generalize invI (L.take j) es = i1 at *
          go_upto_region 5 with fail
          refine Plan.start (fun W => W.cell? (x.add (j * 8)) = some (.bool false) ∧ W.cell? ⟨(x.add (j * 8)).block, (x.add (j * 8)).off + 2, none⟩ = some (.int .i64 es)) [(0, true), (1, true), (2, true), (3, true), (4, true), (5, true), (6, true), (7, true), (8, true), (9, true), (10, true), (11, true), (12, true), (13, true), (14, false), (15, true), (16, true)] (by kernel_rfl) (by kernel_rfl) (by kernel_rfl) (by kernel_rfl) ⟨c0, c2⟩ ?_
          simp only [List.map_cons, List.map_nil, List.getElem?_toArray, List.getElem?_cons_zero, List.getElem?_cons_succ]
          replace K := K.drew
          repeat (first | (refine Plan.take ?_ (by rfl) ?_ ?_; rotate_left; (· rintro w9 ⟨u0, u1⟩; go_simp; (try rw [if_neg (by omega)]); all_goals (with_reducible rfl)); simp only [Act.put, List.setIfInBounds_toArray, List.set_cons_zero, List.set_cons_succ]) | (refine Plan.pass (by rfl) ?_; simp only [Act.put, List.setIfInBounds_toArray, List.set_cons_zero, List.set_cons_succ]))
          refine Plan.call (by rfl) 75 _ ?_ (HI.out _ K.hb) ?_
          · go_simp
          rintro r9 w2 ⟨rfl, h9⟩
          replace K := K.on h9
          clear h9
          refine ⟨_, rfl, ⟨(HC.out _ K.hb).1, (HC.out _ K.hb).2.2.1⟩, ?_⟩
          simp only [Act.put, List.setIfInBounds_toArray, List.set_cons_zero, List.set_cons_succ]
          repeat (first | (refine Plan.take ?_ (by rfl) ?_ ?_; rotate_left; (· rintro w9 ⟨u0, u1⟩; go_simp; (try rw [if_neg (by omega)]); all_goals (with_reducible rfl)); simp only [Act.put, List.setIfInBounds_toArray, List.set_cons_zero, List.set_cons_succ]) | (refine Plan.pass (by rfl) ?_; simp only [Act.put, List.setIfInBounds_toArray, List.set_cons_zero, List.set_cons_succ]))
          refine Plan.ends ?_
          clear c0 c1 c2 c3 c4 c5 c6 c7
          obtain ⟨c0, c1, c2, c3, c4, c5, c6, c7⟩ := HC.out _ K.hb
          have KB := K.al (.cells #[.bool false, .int .i64 eq, .int .i64 es, .int .i64 ek, .int .i64 eb, .string ed, .int .i64 ee, .string ex] 55)
          obtain ⟨b0, b1, b2, b3, b4, b5, b6, b7⟩ := ev_cells (KB.get 0 rfl)
          by_cases h2 : 0 ≤ r1
          · obtain ⟨i, y, rfl, hy⟩ := HS.out h2
            rw [if_pos h2, Int.toNat_natCast, hy] at hO
            have hi : i < n := by rw [← hlen]; exact (List.getElem?_eq_some_iff.1 hy).1
            have hiI : (i : Int) < (n : Int) := by omega
            have hi0 : (0 : Int) ≤ (i : Int) := by omega
            have e1 : decide ((0 : Int) ≤ (i : Int)) = true := decide_eq_true hi0
            have HCI := Lib.hid (fun W (h : Below w.heap.size w W) => (show EvAt W x i y from by
              obtain ⟨x', e', hx, he', q⟩ := HAT.out W h i hi
              obtain rfl := Option.some.inj hx
              rw [hy] at he'
              obtain rfl := Option.some.inj he'
              exact q))
            obtain ⟨yr, yq, ys, yk, yb, yd, ye, yx⟩ := y
            simp only at HCI hO
            subst hO
            clear hy HS
            go_upto_region 9 with (first
              | (go_at_call 76; ((with_reducible refine (HR.out _ KB.hb).mono ?_); rintro r9 w4 ⟨rfl, h9⟩; replace KB := KB.on h9; clear h9 b0 b1 b2 b3 b4 b5 b6 b7; obtain ⟨b0, b1, b2, b3, b4, b5, b6, b7⟩ := ev_cells (KB.get 0 rfl))))
            generalize w2.heap.size = G at *
            refine Plan.start (fun W => W.cell? ⟨(x.add (i * 8)).block, (x.add (i * 8)).off + 6, none⟩ = some (.int .i64 ye) ∧ W.cell? ⟨(x.add (i * 8)).block, (x.add (i * 8)).off + 7, none⟩ = some (.string yx)) [(0, true), (1, true), (2, true), (3, true), (4, true), (5, true), (6, false), (7, true), (8, false)] (by kernel_rfl) (by kernel_rfl) (by kernel_rfl) (by kernel_rfl) ⟨(HCI.out _ KB.drew.hb).2.2.2.2.2.2.1, (HCI.out _ KB.drew.hb).2.2.2.2.2.2.2⟩ ?_
            simp only [List.map_cons, List.map_nil, List.getElem?_toArray, List.getElem?_cons_zero, List.getElem?_cons_succ]
            replace KB := KB.drew
            clear b0 b1 b2 b3 b4 b5 b6 b7 K
            repeat (first | (refine Plan.take ?_ (by rfl) ?_ ?_; rotate_left; (· rintro w9 ⟨u0, u1⟩; go_simp; (try rw [if_neg (by omega)]); all_goals (with_reducible rfl)); simp only [Act.put, List.setIfInBounds_toArray, List.set_cons_zero, List.set_cons_succ]) | (refine Plan.pass (by rfl) ?_; simp only [Act.put, List.setIfInBounds_toArray, List.set_cons_zero, List.set_cons_succ]))
            refine Plan.carry (by rfl) (KB.store1 0 rfl 4 (.tmp 45) (.const (.bool true)) rfl 0 (.bool true) rfl rfl (show 0 < 8 by omega) bool_info1 rfl rfl ?_)
            intro w5 K9 _
            simp only [List.set, List.setIfInBounds_toArray] at K9
            refine ⟨⟨(HCI.out _ K9.hb).2.2.2.2.2.2.1, (HCI.out _ K9.hb).2.2.2.2.2.2.2⟩, ?_⟩
            clear KB
            simp only [Act.put]
            repeat (first | (refine Plan.take ?_ (by rfl) ?_ ?_; rotate_left; (· rintro w9 ⟨u0, u1⟩; go_simp; (try rw [if_neg (by omega)]); all_goals (with_reducible rfl)); simp only [Act.put, List.setIfInBounds_toArray, List.set_cons_zero, List.set_cons_succ]) | (refine Plan.pass (by rfl) ?_; simp only [Act.put, List.setIfInBounds_toArray, List.set_cons_zero, List.set_cons_succ]))
            refine Plan.carry (by rfl) (K9.storeMid 0 rfl 53 (.tmp 46) (.tmp 44) rfl 6 #[.int .i64 ye, .string yx] #[.bool true, .int .i64 eq, .int .i64 es, .int .i64 ek, .int .i64 eb, .string ed, .int .i64 ye, .string yx] rfl rfl (show 6 + 2 ≤ 8 by omega) result_info2 (by simp [Value.oneCell']) (by simp [spl]) ?_)
            intro w6 K _
            simp only [List.set] at K
            refine ⟨⟨(HCI.out _ K.hb).2.2.2.2.2.2.1, (HCI.out _ K.hb).2.2.2.2.2.2.2⟩, ?_⟩
            clear K9
            simp only [Act.put]
            refine Plan.ends ?_
            have KB := K.al (.cells #[.bool true, .int .i64 eq, .int .i64 es, .int .i64 ek, .int .i64 eb, .string ed, .int .i64 ye, .string yx] 55)
            go_wp2_with (first
              | ((with_reducible refine Plan.load_lit 55 (.tmp 5) G ?_ (K.get 0 rfl) Tryz.underlying55 ?_ ?_ ?_); (· rfl); (· rfl); (· exact ev_info); simp only [Act.put, List.setIfInBounds_toArray, List.set_cons_zero, List.set_cons_succ])
              | (refine KB.apps_one vrOk rfl (.tmp 47) (.tmp 49) rfl 2 0 rfl rfl (e := ⟨true, eq, es, ek, eb, ed, ye, yx⟩) rfl rfl (by omega) ?_; intro g3 c3 w3 K8 k8; simp only [List.set] at K8 k8; simp only [Act.put, List.setIfInBounds_toArray, List.set_cons_zero, List.set_cons_succ]; clear KB K k8))
            have K9 := K8.sub (T' := [Env.lst VR (Env.slv g3 (k + 1) c3) (k + 1) (RX ++ [⟨true, eq, es, ek, eb, ed, ye, yx⟩])]) [2] rfl (by simp) (by simp)
            rw [← HQ.out] at K9
            go_roundw
            case rel => exact ⟨j + 1, k + 1, _, by go_num, by omega, rfl, by omega, K9⟩
            case measure => simp [intOf]; omega
          · have hO2 := hO
            rw [if_neg h2] at hO2
            simp only at hO2
            subst hO2
            clear hO HS
            have e1 : decide (0 ≤ r1) = false := decide_eq_false h2
            have e2 : r1 < 0 := by omega
            go_upto_region 10 with (first
              | (go_at_call 76; ((with_reducible refine (HR.out _ KB.hb).mono ?_); rintro r9 w4 ⟨rfl, h9⟩; replace KB := KB.on h9; clear h9 b0 b1 b2 b3 b4 b5 b6 b7; obtain ⟨b0, b1, b2, b3, b4, b5, b6, b7⟩ := ev_cells (KB.get 0 rfl))))
            generalize w2.heap.size = G at *
            clear K
            have K := KB
            clear KB b0 b1 b2 b3 b4 b5 b6 b7
            have KB := K.al (.cells #[.bool false, .int .i64 eq, .int .i64 es, .int .i64 ek, .int .i64 eb, .string ed, .int .i64 ee, .string ex] 55)
            go_wp2_with (first
              | ((with_reducible refine Plan.load_lit 55 (.tmp 5) G ?_ (K.get 0 rfl) Tryz.underlying55 ?_ ?_ ?_); (· rfl); (· rfl); (· exact ev_info); simp only [Act.put, List.setIfInBounds_toArray, List.set_cons_zero, List.set_cons_succ])
              | (refine KB.apps_one vrOk rfl (.tmp 47) (.tmp 49) rfl 2 0 rfl rfl (e := ⟨false, eq, es, ek, eb, ed, ee, ex⟩) rfl rfl (by omega) ?_; intro g3 c3 w3 K8 k8; simp only [List.set] at K8 k8; simp only [Act.put, List.setIfInBounds_toArray, List.set_cons_zero, List.set_cons_succ]; clear KB K k8))
            have K9 := K8.sub (T' := [Env.lst VR (Env.slv g3 (k + 1) c3) (k + 1) (RX ++ [⟨false, eq, es, ek, eb, ed, ee, ex⟩])]) [2] rfl (by simp) (by simp)
            rw [← HQ.out] at K9
            go_roundw
            case rel => exact ⟨j + 1, k + 1, _, by go_num, by omega, rfl, by omega, K9⟩
            case measure => simp [intOf]; omega
        · replace HQ := Lib.hid (HQ.out.2 (by simp [opsB, h1]))
          generalize invI (L.take j) es = i1 at *
          clear c1 c3 c4 c5 c6 c7 hO HS
          have e1 : decide (0 ≤ i1) = true := decide_eq_true (by omega)
          have e2 : 0 ≤ i1 := by omega
          go_upto_region 5 with fail
          refine Plan.start (fun W => W.cell? (x.add (j * 8)) = some (.bool false) ∧ W.cell? ⟨(x.add (j * 8)).block, (x.add (j * 8)).off + 2, none⟩ = some (.int .i64 es)) [(0, true), (1, true), (2, true), (3, true), (4, true), (5, true), (6, true), (7, true), (8, true), (9, true), (10, true), (11, true), (12, true), (13, true), (14, false), (15, true), (16, true)] (by kernel_rfl) (by kernel_rfl) (by kernel_rfl) (by kernel_rfl) ⟨c0, c2⟩ ?_
          simp only [List.map_cons, List.map_nil, List.getElem?_toArray, List.getElem?_cons_zero, List.getElem?_cons_succ]
          replace K := K.drew
          repeat (first | (refine Plan.take ?_ (by rfl) ?_ ?_; rotate_left; (· rintro w9 ⟨u0, u1⟩; go_simp; (try rw [if_neg (by omega)]); all_goals (with_reducible rfl)); simp only [Act.put, List.setIfInBounds_toArray, List.set_cons_zero, List.set_cons_succ]) | (refine Plan.pass (by rfl) ?_; simp only [Act.put, List.setIfInBounds_toArray, List.set_cons_zero, List.set_cons_succ]))
          refine Plan.call (by rfl) 75 _ ?_ (HI.out _ K.hb) ?_
          · go_simp
          rintro r9 w2 ⟨rfl, h9⟩
          replace K := K.on h9
          clear h9
          refine ⟨_, rfl, ⟨(HC.out _ K.hb).1, (HC.out _ K.hb).2.2.1⟩, ?_⟩
          simp only [Act.put, List.setIfInBounds_toArray, List.set_cons_zero, List.set_cons_succ]
          repeat (first | (refine Plan.take ?_ (by rfl) ?_ ?_; rotate_left; (· rintro w9 ⟨u0, u1⟩; go_simp; (try rw [if_neg (by omega)]); all_goals (with_reducible rfl)); simp only [Act.put, List.setIfInBounds_toArray, List.set_cons_zero, List.set_cons_succ]) | (refine Plan.pass (by rfl) ?_; simp only [Act.put, List.setIfInBounds_toArray, List.set_cons_zero, List.set_cons_succ]))
          refine Plan.ends ?_
          rw [← HQ.out] at K
          go_wp2_with fail
          go_roundw
          case rel => exact ⟨j + 1, k, _, by go_num, by omega, rfl, by omega, K⟩
          case measure => simp [intOf]; omega
    · obtain rfl : j = n := by omega
      have hjI : ¬ (j : Int) < (j : Int) := by omega
      go_wp2_with fail
      go_ret
      obtain ⟨a9, c9, e9, l9⟩ := owns_list (F := fun b => w.heap.size ≤ b) vrOk (K.own 0 rfl) (fun b h9 => ((K.own 0 rfl).lt b h9).1)
      subst e9
      exact ⟨_, _, _, rfl, l9, K.hb⟩
end Go.Proofs.YtnmhnjjehglcfaaGreat.Ents

/- Linearizations: what the document's Check of layer 19 asks. Plain mathematics. -/
namespace Go.Proofs.YtnmhnjjehglcfaaGreat.LinMath
open HisMath ModMath
/-- the errors of a history and of blocks -/
def sizesE (B : List ByteArray) (L : List Ev) : Int := if checkE (B.length : Int) L ≠ 0 then checkE (B.length : Int) L else if B.all (fun s => decide (s.size = 16)) then 0 else 2
def cmdOf (x : Ev) : Cmd := ⟨x.kind, x.block, x.data⟩
def opNo (ops : List Ev) (s : Int) : Option Ev := ops.find? (fun x => decide (x.serial = s))
/-- the operations that have to occur -/
def mustB (ops : List Ev) (o : List Int) : Bool := ops.all (fun x => !(x.ret && decide (x.err = 0)) || decide (x.serial ∈ o))
/-- may an operation be the next one behind some others -/
def stepB (L : List Ev) (Bi : List ByteArray) (done : List Int) (x : Ev) : Bool :=
  !decide (x.serial ∈ done) && !(x.ret && !decide (x.err = 0)) && !(done.any (fun t => beforeB L x.serial t)) && (!x.ret || (decide ((applyR Bi (cmdOf x)).err = x.err) && decide ((applyR Bi (cmdOf x)).data = x.res)))
/-- the blocks behind the first operations of an order, if they may follow each other -/
def blkAt (B : List ByteArray) (L : List Ev) (o : List Int) : Nat → Option (List ByteArray)
  | 0 => some B
  | i + 1 => match blkAt B L o i, o[i]? with
    | some Bi, some s => match opNo (opsE L L.length) s with
      | some x => if stepB L Bi (o.take i) x then some (applyB Bi (cmdOf x)) else none
      | none => none
    | _, _ => none
def linOk (B : List ByteArray) (L : List Ev) (o : List Int) : Bool := mustB (opsE L L.length) o && (blkAt B L o o.length).isSome
def linE (B : List ByteArray) (L : List Ev) (o : List Int) : Int := if sizesE B L ≠ 0 then sizesE B L else if linOk B L o then 0 else 17
theorem blk_none {B : List ByteArray} {L : List Ev} {o : List Int} {i : Nat} (h : blkAt B L o i = none) : ∀ {j}, i ≤ j → blkAt B L o j = none := by
  intro j hj
  induction j with
  | zero => obtain rfl : i = 0 := by omega
            exact h
  | succ j ih =>
    by_cases hij : i = j + 1
    · subst hij; exact h
    · rw [blkAt, ih (by omega)]
theorem blk_next {B Bi : List ByteArray} {L : List Ev} {o : List Int} {i : Nat} {s : Int} (h : blkAt B L o i = some Bi) (hs : o[i]? = some s) : blkAt B L o (i + 1) = match opNo (opsE L L.length) s with
      | some x => if stepB L Bi (o.take i) x then some (applyB Bi (cmdOf x)) else none
      | none => none := by
  rw [blkAt, h, hs]
theorem op_serial {ops : List Ev} {s : Int} {x : Ev} (h : opNo ops s = some x) : x.serial = s := by
  have := List.find?_some h
  simpa using this
theorem op_found {ops : List Ev} {s : Int} {i : Nat} {x : Ev} (hx : ops[i]? = some x) (hs : x.serial = s) (hb : ∀ (j : Nat) (y : Ev), j < i → ops[j]? = some y → y.serial ≠ s) : opNo ops s = some x := by
  unfold opNo
  rw [List.find?_eq_some_iff_getElem]
  obtain ⟨hi, he⟩ := List.getElem?_eq_some_iff.1 hx
  refine ⟨by simpa using hs, i, hi, he, fun j hj => ?_⟩
  have := hb j _ hj (List.getElem?_eq_getElem (by omega))
  simpa using this
theorem sizes_err {B : List ByteArray} {L : List Ev} (h : checkE (B.length : Int) L ≠ 0) : sizesE B L = checkE (B.length : Int) L := by unfold sizesE; rw [if_pos h]
theorem sizes_bad {B : List ByteArray} {L : List Ev} {i : Nat} {s : ByteArray} (h : checkE (B.length : Int) L = 0) (hs : B[i]? = some s) (hz : s.size ≠ 16) : sizesE B L = 2 := by
  unfold sizesE
  rw [if_neg (by omega)]
  have : B.all (fun s => decide (s.size = 16)) = false := by
    rw [List.all_eq_false]
    exact ⟨s, List.mem_of_getElem? hs, by simp [hz]⟩
  rw [this]; rfl
theorem sizes_good {B : List ByteArray} {L : List Ev} (h : checkE (B.length : Int) L = 0) (hs : ∀ (i : Nat) (s : ByteArray), i < B.length → B[i]? = some s → s.size = 16) : sizesE B L = 0 := by
  unfold sizesE
  rw [if_neg (by omega)]
  have : B.all (fun s => decide (s.size = 16)) = true := by
    rw [List.all_eq_true]
    intro s h2
    obtain ⟨i, hi⟩ := List.mem_iff_getElem?.1 h2
    simpa using hs i s (List.getElem?_eq_some_iff.1 hi).1 hi
  rw [this]; rfl
end Go.Proofs.YtnmhnjjehglcfaaGreat.LinMath

/- Right histories, as an inductive set: what they keep. Plain mathematics. -/
namespace Go.Proofs.YtnmhnjjehglcfaaGreat.HisMath
structure RInv (L : List Ev) (x : Ev) : Prop where
  ret : x.ret = false
  q0 : 0 ≤ x.queue
  q4 : x.queue < 4
  s0 : 0 ≤ x.serial
  fresh : ∀ y ∈ L, y.serial ≠ x.serial
  err : x.err = 0
  res : x.res.size = 0
structure RRet (L : List Ev) (x : Ev) : Prop where
  ret : x.ret = true
  q0 : 0 ≤ x.queue
  q4 : x.queue < 4
  s0 : 0 ≤ x.serial
  one : ∃ y ∈ L, y.ret = false ∧ y.serial = x.serial ∧ y.queue = x.queue ∧ y.kind = x.kind ∧ y.block = x.block ∧ y.data = x.data
  open' : ∀ y ∈ L, y.ret = true → y.serial ≠ x.serial
  fits : fitsB x.kind x.err x.res.size = true
inductive Right : List Ev → Prop
  | nil : Right []
  | inv {L x} : Right L → RInv L x → Right (L ++ [x])
  | ret {L x} : Right L → RRet L x → Right (L ++ [x])
theorem seek_neg {p : Ev → Bool} {l : List Ev} : seek p l < 0 ↔ ∀ x ∈ l, p x = false := by
  unfold seek
  cases h : l.findIdx? p with
  | none =>
    rw [List.findIdx?_eq_none_iff] at h
    exact ⟨fun _ => h, fun _ => by simp⟩
  | some i =>
    obtain ⟨hi, hp, _⟩ := List.findIdx?_eq_some_iff_getElem.1 h
    constructor
    · intro h1; simp at h1; omega
    · intro h1
      have := h1 _ (List.getElem_mem hi)
      rw [hp] at this; cases this
theorem seek_is {p : Ev → Bool} {l : List Ev} (h : 0 ≤ seek p l) : ∃ (i : Nat) (y : Ev), seek p l = (i : Int) ∧ l[i]? = some y ∧ p y = true ∧ ∀ (j : Nat) (z : Ev), j < i → l[j]? = some z → p z = false := by
  unfold seek at h ⊢
  cases hf : l.findIdx? p with
  | none => rw [hf] at h; simp at h
  | some i =>
    obtain ⟨h1, h2, h3⟩ := List.findIdx?_eq_some_iff_getElem.1 hf
    refine ⟨i, l[i], rfl, List.getElem?_eq_getElem h1, h2, fun j z hj hz => ?_⟩
    have := h3 j hj
    obtain ⟨hl, rfl⟩ := List.getElem?_eq_some_iff.1 hz
    simpa using this
theorem inv_neg {L : List Ev} {s : Int} : invI L s < 0 ↔ ∀ y ∈ L, y.ret = false → y.serial ≠ s := by
  unfold invI
  rw [seek_neg]
  constructor
  · intro h y hy hr hs
    have := h y hy
    simp [invP, hr, hs] at this
  · intro h y hy
    cases hr : y.ret
    · have := h y hy hr
      simp [invP, hr, this]
    · simp [invP, hr]
theorem ret_neg {L : List Ev} {s : Int} : retI L s < 0 ↔ ∀ y ∈ L, y.ret = true → y.serial ≠ s := by
  unfold retI
  rw [seek_neg]
  constructor
  · intro h y hy hr hs
    have := h y hy
    simp [retP, hr, hs] at this
  · intro h y hy
    cases hr : y.ret
    · simp [retP, hr]
    · have := h y hy hr
      simp [retP, hr, this]
theorem Right.one {L : List Ev} (h : Right L) : ∀ (i j : Nat) (x y : Ev), L[i]? = some x → L[j]? = some y → x.ret = false → y.ret = false → x.serial = y.serial → i = j := by
  induction h with
  | nil => intro i j x y hi; simp at hi
  | @inv L x hL hx ih =>
    intro i j a b hi hj ra rb hs
    rcases Nat.lt_trichotomy i L.length with h1 | h1 | h1
    · rw [List.getElem?_append_left h1] at hi
      rcases Nat.lt_trichotomy j L.length with h2 | h2 | h2
      · rw [List.getElem?_append_left h2] at hj
        exact ih i j a b hi hj ra rb hs
      · subst h2
        rw [List.getElem?_append_right (Nat.le_refl _), Nat.sub_self] at hj
        obtain rfl := Option.some.inj (show some x = some b from hj)
        exact absurd hs (hx.fresh a (List.mem_of_getElem? hi))
      · rw [List.getElem?_eq_none (by simp; omega)] at hj; cases hj
    · subst h1
      rw [List.getElem?_append_right (Nat.le_refl _), Nat.sub_self] at hi
      obtain rfl := Option.some.inj (show some x = some a from hi)
      rcases Nat.lt_trichotomy j L.length with h2 | h2 | h2
      · rw [List.getElem?_append_left h2] at hj
        exact absurd hs.symm (hx.fresh b (List.mem_of_getElem? hj))
      · exact h2.symm
      · rw [List.getElem?_eq_none (by simp; omega)] at hj; cases hj
    · rw [List.getElem?_eq_none (by simp; omega)] at hi; cases hi
  | @ret L x hL hx ih =>
    intro i j a b hi hj ra rb hs
    have key : ∀ (k : Nat) (c : Ev), (L ++ [x])[k]? = some c → c.ret = false → L[k]? = some c := by
      intro k c hk hc
      rcases Nat.lt_trichotomy k L.length with h1 | h1 | h1
      · rwa [List.getElem?_append_left h1] at hk
      · subst h1
        rw [List.getElem?_append_right (Nat.le_refl _), Nat.sub_self] at hk
        obtain rfl := Option.some.inj (show some x = some c from hk)
        rw [hx.ret] at hc; cases hc
      · rw [List.getElem?_eq_none (by simp; omega)] at hk; cases hk
    exact ih i j a b (key i a hi ra) (key j b hj rb) ra rb hs
theorem Right.inv_at {L : List Ev} (h : Right L) {y : Ev} (hy : y ∈ L) (hr : y.ret = false) : 0 ≤ invI L y.serial ∧ L[(invI L y.serial).toNat]? = some y := by
  have h0 : 0 ≤ invI L y.serial := by
    rcases Int.lt_or_le (invI L y.serial) 0 with h1 | h1
    · exact absurd rfl (inv_neg.1 h1 y hy hr)
    · exact h1
  refine ⟨h0, ?_⟩
  obtain ⟨i, z, hi, hz, hp, _⟩ := seek_is h0
  obtain ⟨j, hj⟩ := List.mem_iff_getElem?.1 hy
  simp only [invP, Bool.and_eq_true, decide_eq_true_eq] at hp
  have hzr : z.ret = false := by have := hp.1; cases hq : z.ret <;> simp_all
  have := h.one i j z y hz hj hzr hr hp.2
  subst this
  rw [show invI L y.serial = (i : Int) from hi, Int.toNat_natCast]
  exact hj
/-- what the document asks of an event behind a right history -/
theorem right_step {L : List Ev} (h : Right L) (x : Ev) : rightB L x = true ↔ RInv L x ∨ RRet L x := by
  unfold rightB
  by_cases hq : x.queue < 0 ∨ 4 ≤ x.queue ∨ x.serial < 0
  · rw [if_pos hq]
    constructor
    · intro h; cases h
    · rintro (h1 | h1)
      · have := h1.q0; have := h1.q4; have := h1.s0; omega
      · have := h1.q0; have := h1.q4; have := h1.s0; omega
  · rw [if_neg hq]
    have b1 : 0 ≤ x.queue := by omega
    have b2 : x.queue < 4 := by omega
    have b3 : 0 ≤ x.serial := by omega
    cases hr : x.ret
    · rw [if_pos rfl]
      simp only [Bool.and_eq_true, decide_eq_true_eq]
      constructor
      · rintro ⟨⟨h1, h2⟩, h3, h4⟩
        refine .inl ⟨hr, b1, b2, b3, fun y hy => ?_, h3, h4⟩
        cases hyr : y.ret
        · exact inv_neg.1 h1 y hy hyr
        · exact ret_neg.1 h2 y hy hyr
      · rintro (h1 | h1)
        · exact ⟨⟨inv_neg.2 (fun y hy _ => h1.fresh y hy), ret_neg.2 (fun y hy _ => h1.fresh y hy)⟩, h1.err, h1.res⟩
        · rw [h1.ret] at hr; cases hr
    · rw [if_neg (by decide)]
      constructor
      · intro h1
        by_cases h0 : 0 ≤ invI L x.serial
        · rw [if_pos h0] at h1
          obtain ⟨i, z, hi, hz, hp, _⟩ := seek_is h0
          rw [show invI L x.serial = (i : Int) from hi, Int.toNat_natCast, hz] at h1
          simp only [Bool.and_eq_true, decide_eq_true_eq] at h1
          simp only [invP, Bool.and_eq_true, decide_eq_true_eq] at hp
          have hzr : z.ret = false := by have := hp.1; cases hq : z.ret <;> simp_all
          obtain ⟨⟨⟨h2, h3⟩, ⟨h4, h5⟩, h6⟩, h7⟩ := h1
          exact .inr ⟨hr, b1, b2, b3, ⟨z, List.mem_of_getElem? hz, hzr, hp.2, h3.symm, h4.symm, h5.symm, h6.symm⟩, ret_neg.1 h2, h7⟩
        · rw [if_neg h0] at h1; cases h1
      · rintro (h1 | h1)
        · rw [h1.ret] at hr; cases hr
        · obtain ⟨y, hy, hyr, hs, h3, h4, h5, h6⟩ := h1.one
          obtain ⟨h7, h8⟩ := h.inv_at hy hyr
          rw [hs] at h7 h8
          rw [if_pos h7, h8]
          simp only [Bool.and_eq_true, decide_eq_true_eq]
          exact ⟨⟨⟨ret_neg.2 h1.open', h3.symm⟩, ⟨h4.symm, h5.symm⟩, h6.symm⟩, h1.fits⟩
theorem rights_snoc (L : List Ev) (x : Ev) : rightsB (L ++ [x]) = (rightsB L && rightB L x) := by
  unfold rightsB
  rw [List.length_append, List.length_singleton, List.range_succ, List.all_append, List.all_cons, List.all_nil, Bool.and_true]
  congr 1
  · apply Bool.eq_iff_iff.2
    simp only [List.all_eq_true, List.mem_range]
    have e : ∀ i, i < L.length → rightAt (L ++ [x]) i = rightAt L i := fun i hi => by
      unfold rightAt
      rw [List.getElem?_append_left hi, List.take_append_of_le_length (by omega)]
    exact ⟨fun h i hi => by rw [← e i hi]; exact h i hi, fun h i hi => by rw [e i hi]; exact h i hi⟩
  · unfold rightAt
    rw [List.getElem?_append_right (Nat.le_refl _), Nat.sub_self, List.take_append_of_le_length (Nat.le_refl _), List.take_length]
    rfl
theorem snoc_ind {α : Type} {P : List α → Prop} (h0 : P []) (h1 : ∀ L x, P L → P (L ++ [x])) : ∀ L, P L := by
  intro L
  rw [← List.reverse_reverse L]
  induction L.reverse with
  | nil => exact h0
  | cons x M ih => rw [List.reverse_cons]; exact h1 _ _ ih
theorem rights_iff (L : List Ev) : rightsB L = true ↔ Right L := by
  revert L
  refine snoc_ind ⟨fun _ => .nil, fun _ => rfl⟩ fun L x ih => ?_
  rw [rights_snoc, Bool.and_eq_true, ih]
  constructor
  · rintro ⟨h1, h2⟩
    rcases (right_step h1 x).1 h2 with h3 | h3
    · exact .inv h1 h3
    · exact .ret h1 h3
  · intro h
    generalize hM : L ++ [x] = M at h
    cases h with
    | nil => simp at hM
    | inv h1 h2 =>
      obtain ⟨rfl, h3⟩ := List.append_inj' hM rfl
      obtain rfl := List.singleton_inj.1 h3
      exact ⟨h1, (right_step h1 _).2 (.inl h2)⟩
    | ret h1 h2 =>
      obtain ⟨rfl, h3⟩ := List.append_inj' hM rfl
      obtain rfl := List.singleton_inj.1 h3
      exact ⟨h1, (right_step h1 _).2 (.inr h2)⟩
theorem right_snoc {L : List Ev} {x : Ev} (h : Right (L ++ [x])) : Right L ∧ (RInv L x ∨ RRet L x) := by
  have h1 := (rights_iff _).2 h
  rw [rights_snoc, Bool.and_eq_true] at h1
  have h2 := (rights_iff L).1 h1.1
  exact ⟨h2, (right_step h2 x).1 h1.2⟩
theorem right_front {L : List Ev} : ∀ {M : List Ev}, Right (L ++ M) → Right L := by
  intro M
  revert M
  apply snoc_ind
  · intro h; rwa [List.append_nil] at h
  · intro M x ih h
    rw [← List.append_assoc] at h
    exact ih (right_snoc h).1
theorem right_take {L : List Ev} (h : Right L) (n : Nat) : Right (L.take n) := by
  rw [← List.take_append_drop n L] at h
  exact right_front h
theorem check_right {L : List Ev} {b : Int} (h : Right L) (h1 : 1 ≤ b) (h2 : b ≤ 128) (h3 : L.length ≤ 400) : checkE b L = 0 := by
  unfold checkE
  rw [if_neg (by omega), if_neg (by omega), if_pos ((rights_iff L).2 h)]
end Go.Proofs.YtnmhnjjehglcfaaGreat.HisMath
