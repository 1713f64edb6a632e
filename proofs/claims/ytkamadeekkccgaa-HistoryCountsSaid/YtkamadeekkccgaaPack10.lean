/- Texts that belong together, part 10. -/
import Derived.Test.YtkamadeekkccgaaPack9

/- The walk of the document's Operations. -/
namespace Go.Proofs.Ytkamadeekkccgaa.HisMath
/-- an invocation with what its return says, if there is one -/
def opOf (L : List Ev) (e : Ev) : Ev := match (if 0 ≤ retI L e.serial then L[(retI L e.serial).toNat]? else none) with
  | some y => { e with ret := true, err := y.err, res := y.res }
  | none => e
def opsB (L : List Ev) (j : Nat) (e : Ev) : Bool := !e.ret && decide (invI (L.take j) e.serial < 0)
def opsE (L : List Ev) : Nat → List Ev
  | 0 => []
  | m + 1 => match L[m]? with
    | some e => if opsB L m e then opsE L m ++ [opOf L e] else opsE L m
    | none => opsE L m
theorem ops_next {L : List Ev} {j : Nat} {e : Ev} (h : L[j]? = some e) : (opsB L j e = true → opsE L (j + 1) = opsE L j ++ [opOf L e]) ∧ (opsB L j e = false → opsE L (j + 1) = opsE L j) :=
  ⟨fun hp => by simp [opsE, h, hp], fun hp => by simp [opsE, h, hp]⟩
end Go.Proofs.Ytkamadeekkccgaa.HisMath
namespace Go.Proofs.Ytkamadeekkccgaa.Ents
open Go.RowKit Plan HisMath Rws Env LayMath
theorem evs_info1 : (Try.prog.info? 22).map (·.size) = some 1 := by kernel_rfl
theorem bool_info1 : (Try.prog.info? 4).map (·.size) = some 1 := by kernel_rfl
theorem result_info2 : (Try.prog.info? 34).map (·.size) = some 2 := by kernel_rfl
set_option maxHeartbeats 8000000 in
set_option maxRecDepth 20000 in
theorem refOps_any (F : Nat → Prop) (L : List Ev) (a : Option Addr) (n c : Nat) (w : World) (hl : VList w F a n c L) (hm : n ≤ 100000) :
    Calls Try.prog 21 #[.slice a n c] w (VPost w (opsE L n)) := by
  have hlen := hl.length
  obtain ⟨hcp, hcm⟩ := hl.cap
  unfold maxLen at hcm
  have HAT := Lib.hid (fun W (h : Below w.heap.size w W) i (hi : i < n) => ev_at (hl.same h) i hi)
  have HI0 := Lib.hid (fun W (h : Below w.heap.size w W) j (hj : j ≤ n) s => refInvoked_any _ (L.take j) a j c s W ((hl.front vrOk j hj).same h))
  have HR0 := Lib.hid (fun W (h : Below w.heap.size w W) s => refReturned_any _ L a n c s W (hl.same h))
  have K := (Env.start w).nil VR
  unfold VPost
  clear hl
  go_enter Try.func21, Try.ntmps21
  go_wp2_with fail
  go_loopw [3, 4] (fun v x wr => ∃ (j k : Nat) (u : Value), x = .int .i64 (j : Int) ∧ j ≤ n ∧ v = u ∧ k ≤ j ∧ Env w wr [Env.lst VR u k (opsE L j)]) (fun _ x _ => n - (intOf x).toNat)
  case atStart => exact ⟨0, 0, _, rfl, by omega, rfl, by omega, K⟩
  case round =>
    clear K
    obtain ⟨j, k, u, rfl, hj, rfl, hk, K⟩ := hrel
    by_cases hlt : j < n
    · obtain ⟨x, e, rfl, he, c0, c1, c2, c3, c4, c5, c6, c7⟩ := HAT.out wr K.hb j hlt
      have hjI : (j : Int) < (n : Int) := by omega
      have hjc : j ≤ c := by omega
      have HQ := Lib.hid (ops_next he)
      have HC := Lib.hid (fun W (h : Below w.heap.size w W) => (show EvAt W x j e from by
        obtain ⟨x', e', hx, he', q⟩ := HAT.out W h j hlt
        obtain rfl := Option.some.inj hx
        rw [he] at he'
        obtain rfl := Option.some.inj he'
        exact q))
      have HI := Lib.hid (fun W (h : Below w.heap.size w W) => HI0.out W h j (by omega) e.serial)
      have HR := Lib.hid (fun W (h : Below w.heap.size w W) => HR0.out W h e.serial)
      have HS := Lib.hid (fun (h : 0 ≤ retI L e.serial) => seek_in h)
      have HO := Lib.hid (Eq.refl (opOf L e))
      generalize hO : opOf L e = O at *
      unfold opOf at hO
      rw [show seek (retP e.serial) L = retI L e.serial from rfl] at HS
      obtain ⟨er, eq, es, ek, eb, ed, ee, ex⟩ := e
      simp only at c0 c1 c2 c3 c4 c5 c6 c7 HC HI HR HS hO
      clear he HO
      generalize opsE L j = RX at *
      generalize retI L es = r1 at *
      cases er with
      | true =>
        clear c1 c3 c4 c5 c6 c7 hO HS
        replace HQ := Lib.hid (HQ.out.2 (by simp [opsB]))
        go_upto_region 5 with fail
        refine Plan.start (fun W => W.cell? (x.add (j * 8)) = some (.bool true) ∧ W.cell? ⟨(x.add (j * 8)).block, (x.add (j * 8)).off + 2, none⟩ = some (.int .i64 es)) [(0, true), (1, true), (2, true), (3, true), (4, true), (5, true), (6, true), (7, true), (8, true), (9, true), (10, true), (11, true), (12, true), (13, true), (14, false), (15, true), (16, true)] (by kernel_rfl) (by kernel_rfl) (by kernel_rfl) (by kernel_rfl) ⟨c0, c2⟩ ?_
        simp only [List.map_cons, List.map_nil, List.getElem?_toArray, List.getElem?_cons_zero, List.getElem?_cons_succ]
        replace K := K.drew
        repeat (first | (refine Plan.take ?_ (by rfl) ?_ ?_; rotate_left; (· rintro w9 ⟨u0, u1⟩; go_simp; (try rw [if_neg (by omega)]); all_goals (with_reducible rfl)); simp only [Act.put, List.setIfInBounds_toArray, List.set_cons_zero, List.set_cons_succ]) | (refine Plan.pass (by rfl) ?_; simp only [Act.put, List.setIfInBounds_toArray, List.set_cons_zero, List.set_cons_succ]))
        refine Plan.pass' (by rfl) ⟨(HC.out _ K.hb).1, (HC.out _ K.hb).2.2.1⟩ ?_
        simp only [Act.put, List.setIfInBounds_toArray, List.set_cons_zero, List.set_cons_succ]
        repeat (first | (refine Plan.take ?_ (by rfl) ?_ ?_; rotate_left; (· rintro w9 ⟨u0, u1⟩; go_simp; (try rw [if_neg (by omega)]); all_goals (with_reducible rfl)); simp only [Act.put, List.setIfInBounds_toArray, List.set_cons_zero, List.set_cons_succ]) | (refine Plan.pass (by rfl) ?_; simp only [Act.put, List.setIfInBounds_toArray, List.set_cons_zero, List.set_cons_succ]))
        refine Plan.ends ?_
        rw [← HQ.out] at K
        go_wp2_with fail
        go_roundw
        case rel => exact ⟨j + 1, k, _, by go_num, by omega, rfl, by omega, K⟩
        case measure => simp [intOf]; omega
      | false =>
        by_cases h1 : invI (L.take j) es < 0
        · replace HQ := Lib.hid (HQ.out.1 (by simp [opsB, h1]))
          generalize invI (L.take j) es = i1 at *
          go_upto_region 5 with fail
          refine Plan.start (fun W => W.cell? (x.add (j * 8)) = some (.bool false) ∧ W.cell? ⟨(x.add (j * 8)).block, (x.add (j * 8)).off + 2, none⟩ = some (.int .i64 es)) [(0, true), (1, true), (2, true), (3, true), (4, true), (5, true), (6, true), (7, true), (8, true), (9, true), (10, true), (11, true), (12, true), (13, true), (14, false), (15, true), (16, true)] (by kernel_rfl) (by kernel_rfl) (by kernel_rfl) (by kernel_rfl) ⟨c0, c2⟩ ?_
          simp only [List.map_cons, List.map_nil, List.getElem?_toArray, List.getElem?_cons_zero, List.getElem?_cons_succ]
          replace K := K.drew
          repeat (first | (refine Plan.take ?_ (by rfl) ?_ ?_; rotate_left; (· rintro w9 ⟨u0, u1⟩; go_simp; (try rw [if_neg (by omega)]); all_goals (with_reducible rfl)); simp only [Act.put, List.setIfInBounds_toArray, List.set_cons_zero, List.set_cons_succ]) | (refine Plan.pass (by rfl) ?_; simp only [Act.put, List.setIfInBounds_toArray, List.set_cons_zero, List.set_cons_succ]))
          refine Plan.call (by rfl) 34 _ ?_ (HI.out _ K.hb) ?_
          · go_simp
          rintro r9 w2 ⟨rfl, h9⟩
          replace K := K.on h9
          clear h9
          refine ⟨_, rfl, ⟨(HC.out _ K.hb).1, (HC.out _ K.hb).2.2.1⟩, ?_⟩
          simp only [Act.put, List.setIfInBounds_toArray, List.set_cons_zero, List.set_cons_succ]
          repeat (first | (refine Plan.take ?_ (by rfl) ?_ ?_; rotate_left; (· rintro w9 ⟨u0, u1⟩; go_simp; (try rw [if_neg (by omega)]); all_goals (with_reducible rfl)); simp only [Act.put, List.setIfInBounds_toArray, List.set_cons_zero, List.set_cons_succ]) | (refine Plan.pass (by rfl) ?_; simp only [Act.put, List.setIfInBounds_toArray, List.set_cons_zero, List.set_cons_succ]))
          refine Plan.ends ?_
          clear c0 c1 c2 c3 c4 c5 c6 c7
          obtain ⟨c0, c1, c2, c3, c4, c5, c6, c7⟩ := HC.out _ K.hb
          have KB := K.al (.cells #[.bool false, .int .i64 eq, .int .i64 es, .int .i64 ek, .int .i64 eb, .string ed, .int .i64 ee, .string ex] 36)
          obtain ⟨b0, b1, b2, b3, b4, b5, b6, b7⟩ := ev_cells (KB.get 0 rfl)
          by_cases h2 : 0 ≤ r1
          · obtain ⟨i, y, rfl, hy⟩ := HS.out h2
            rw [if_pos h2, Int.toNat_natCast, hy] at hO
            have hi : i < n := by rw [← hlen]; exact (List.getElem?_eq_some_iff.1 hy).1
            have hiI : (i : Int) < (n : Int) := by omega
            have hi0 : (0 : Int) ≤ (i : Int) := by omega
            have e1 : decide ((0 : Int) ≤ (i : Int)) = true := decide_eq_true hi0
            have HCI := Lib.hid (fun W (h : Below w.heap.size w W) => (show EvAt W x i y from by
              obtain ⟨x', e', hx, he', q⟩ := HAT.out W h i hi
              obtain rfl := Option.some.inj hx
              rw [hy] at he'
              obtain rfl := Option.some.inj he'
              exact q))
            obtain ⟨yr, yq, ys, yk, yb, yd, ye, yx⟩ := y
            simp only at HCI hO
            subst hO
            clear hy HS
            go_upto_region 9 with (first
              | (go_at_call 33; ((with_reducible refine (HR.out _ KB.hb).mono ?_); rintro r9 w4 ⟨rfl, h9⟩; replace KB := KB.on h9; clear h9 b0 b1 b2 b3 b4 b5 b6 b7; obtain ⟨b0, b1, b2, b3, b4, b5, b6, b7⟩ := ev_cells (KB.get 0 rfl))))
            generalize w2.heap.size = G at *
            refine Plan.start (fun W => W.cell? ⟨(x.add (i * 8)).block, (x.add (i * 8)).off + 6, none⟩ = some (.int .i64 ye) ∧ W.cell? ⟨(x.add (i * 8)).block, (x.add (i * 8)).off + 7, none⟩ = some (.string yx)) [(0, true), (1, true), (2, true), (3, true), (4, true), (5, true), (6, false), (7, true), (8, false)] (by kernel_rfl) (by kernel_rfl) (by kernel_rfl) (by kernel_rfl) ⟨(HCI.out _ KB.drew.hb).2.2.2.2.2.2.1, (HCI.out _ KB.drew.hb).2.2.2.2.2.2.2⟩ ?_
            simp only [List.map_cons, List.map_nil, List.getElem?_toArray, List.getElem?_cons_zero, List.getElem?_cons_succ]
            replace KB := KB.drew
            clear b0 b1 b2 b3 b4 b5 b6 b7 K
            repeat (first | (refine Plan.take ?_ (by rfl) ?_ ?_; rotate_left; (· rintro w9 ⟨u0, u1⟩; go_simp; (try rw [if_neg (by omega)]); all_goals (with_reducible rfl)); simp only [Act.put, List.setIfInBounds_toArray, List.set_cons_zero, List.set_cons_succ]) | (refine Plan.pass (by rfl) ?_; simp only [Act.put, List.setIfInBounds_toArray, List.set_cons_zero, List.set_cons_succ]))
            refine Plan.carry (by rfl) (KB.store1 0 rfl 4 (.tmp 45) (.const (.bool true)) rfl 0 (.bool true) rfl rfl (show 0 < 8 by omega) bool_info1 rfl rfl ?_)
            intro w5 K9 _
            simp only [List.set, List.setIfInBounds_toArray] at K9
            refine ⟨⟨(HCI.out _ K9.hb).2.2.2.2.2.2.1, (HCI.out _ K9.hb).2.2.2.2.2.2.2⟩, ?_⟩
            clear KB
            simp only [Act.put]
            repeat (first | (refine Plan.take ?_ (by rfl) ?_ ?_; rotate_left; (· rintro w9 ⟨u0, u1⟩; go_simp; (try rw [if_neg (by omega)]); all_goals (with_reducible rfl)); simp only [Act.put, List.setIfInBounds_toArray, List.set_cons_zero, List.set_cons_succ]) | (refine Plan.pass (by rfl) ?_; simp only [Act.put, List.setIfInBounds_toArray, List.set_cons_zero, List.set_cons_succ]))
            refine Plan.carry (by rfl) (K9.storeMid 0 rfl 34 (.tmp 46) (.tmp 44) rfl 6 #[.int .i64 ye, .string yx] #[.bool true, .int .i64 eq, .int .i64 es, .int .i64 ek, .int .i64 eb, .string ed, .int .i64 ye, .string yx] rfl rfl (show 6 + 2 ≤ 8 by omega) result_info2 (by simp [Value.oneCell']) (by simp [spl]) ?_)
            intro w6 K _
            simp only [List.set] at K
            refine ⟨⟨(HCI.out _ K.hb).2.2.2.2.2.2.1, (HCI.out _ K.hb).2.2.2.2.2.2.2⟩, ?_⟩
            clear K9
            simp only [Act.put]
            refine Plan.ends ?_
            have KB := K.al (.cells #[.bool true, .int .i64 eq, .int .i64 es, .int .i64 ek, .int .i64 eb, .string ed, .int .i64 ye, .string yx] 36)
            go_wp2_with (first
              | ((with_reducible refine Plan.load_lit 36 (.tmp 5) G ?_ (K.get 0 rfl) Try.underlying36 ?_ ?_ ?_); (· rfl); (· rfl); (· exact ev_info); simp only [Act.put, List.setIfInBounds_toArray, List.set_cons_zero, List.set_cons_succ])
              | (refine KB.apps_one vrOk rfl (.tmp 47) (.tmp 49) rfl 2 0 rfl rfl (e := ⟨true, eq, es, ek, eb, ed, ye, yx⟩) rfl rfl (by omega) ?_; intro g3 c3 w3 K8 k8; simp only [List.set] at K8 k8; simp only [Act.put, List.setIfInBounds_toArray, List.set_cons_zero, List.set_cons_succ]; clear KB K k8))
            have K9 := K8.sub (T' := [Env.lst VR (Env.slv g3 (k + 1) c3) (k + 1) (RX ++ [⟨true, eq, es, ek, eb, ed, ye, yx⟩])]) [2] rfl (by simp) (by simp)
            rw [← HQ.out] at K9
            go_roundw
            case rel => exact ⟨j + 1, k + 1, _, by go_num, by omega, rfl, by omega, K9⟩
            case measure => simp [intOf]; omega
          · have hO2 := hO
            rw [if_neg h2] at hO2
            simp only at hO2
            subst hO2
            clear hO HS
            have e1 : decide (0 ≤ r1) = false := decide_eq_false h2
            have e2 : r1 < 0 := by omega
            go_upto_region 10 with (first
              | (go_at_call 33; ((with_reducible refine (HR.out _ KB.hb).mono ?_); rintro r9 w4 ⟨rfl, h9⟩; replace KB := KB.on h9; clear h9 b0 b1 b2 b3 b4 b5 b6 b7; obtain ⟨b0, b1, b2, b3, b4, b5, b6, b7⟩ := ev_cells (KB.get 0 rfl))))
            generalize w2.heap.size = G at *
            clear K
            have K := KB
            clear KB b0 b1 b2 b3 b4 b5 b6 b7
            have KB := K.al (.cells #[.bool false, .int .i64 eq, .int .i64 es, .int .i64 ek, .int .i64 eb, .string ed, .int .i64 ee, .string ex] 36)
            go_wp2_with (first
              | ((with_reducible refine Plan.load_lit 36 (.tmp 5) G ?_ (K.get 0 rfl) Try.underlying36 ?_ ?_ ?_); (· rfl); (· rfl); (· exact ev_info); simp only [Act.put, List.setIfInBounds_toArray, List.set_cons_zero, List.set_cons_succ])
              | (refine KB.apps_one vrOk rfl (.tmp 47) (.tmp 49) rfl 2 0 rfl rfl (e := ⟨false, eq, es, ek, eb, ed, ee, ex⟩) rfl rfl (by omega) ?_; intro g3 c3 w3 K8 k8; simp only [List.set] at K8 k8; simp only [Act.put, List.setIfInBounds_toArray, List.set_cons_zero, List.set_cons_succ]; clear KB K k8))
            have K9 := K8.sub (T' := [Env.lst VR (Env.slv g3 (k + 1) c3) (k + 1) (RX ++ [⟨false, eq, es, ek, eb, ed, ee, ex⟩])]) [2] rfl (by simp) (by simp)
            rw [← HQ.out] at K9
            go_roundw
            case rel => exact ⟨j + 1, k + 1, _, by go_num, by omega, rfl, by omega, K9⟩
            case measure => simp [intOf]; omega
        · replace HQ := Lib.hid (HQ.out.2 (by simp [opsB, h1]))
          generalize invI (L.take j) es = i1 at *
          clear c1 c3 c4 c5 c6 c7 hO HS
          have e1 : decide (0 ≤ i1) = true := decide_eq_true (by omega)
          have e2 : 0 ≤ i1 := by omega
          go_upto_region 5 with fail
          refine Plan.start (fun W => W.cell? (x.add (j * 8)) = some (.bool false) ∧ W.cell? ⟨(x.add (j * 8)).block, (x.add (j * 8)).off + 2, none⟩ = some (.int .i64 es)) [(0, true), (1, true), (2, true), (3, true), (4, true), (5, true), (6, true), (7, true), (8, true), (9, true), (10, true), (11, true), (12, true), (13, true), (14, false), (15, true), (16, true)] (by kernel_rfl) (by kernel_rfl) (by kernel_rfl) (by kernel_rfl) ⟨c0, c2⟩ ?_
          simp only [List.map_cons, List.map_nil, List.getElem?_toArray, List.getElem?_cons_zero, List.getElem?_cons_succ]
          replace K := K.drew
          repeat (first | (refine Plan.take ?_ (by rfl) ?_ ?_; rotate_left; (· rintro w9 ⟨u0, u1⟩; go_simp; (try rw [if_neg (by omega)]); all_goals (with_reducible rfl)); simp only [Act.put, List.setIfInBounds_toArray, List.set_cons_zero, List.set_cons_succ]) | (refine Plan.pass (by rfl) ?_; simp only [Act.put, List.setIfInBounds_toArray, List.set_cons_zero, List.set_cons_succ]))
          refine Plan.call (by rfl) 34 _ ?_ (HI.out _ K.hb) ?_
          · go_simp
          rintro r9 w2 ⟨rfl, h9⟩
          replace K := K.on h9
          clear h9
          refine ⟨_, rfl, ⟨(HC.out _ K.hb).1, (HC.out _ K.hb).2.2.1⟩, ?_⟩
          simp only [Act.put, List.setIfInBounds_toArray, List.set_cons_zero, List.set_cons_succ]
          repeat (first | (refine Plan.take ?_ (by rfl) ?_ ?_; rotate_left; (· rintro w9 ⟨u0, u1⟩; go_simp; (try rw [if_neg (by omega)]); all_goals (with_reducible rfl)); simp only [Act.put, List.setIfInBounds_toArray, List.set_cons_zero, List.set_cons_succ]) | (refine Plan.pass (by rfl) ?_; simp only [Act.put, List.setIfInBounds_toArray, List.set_cons_zero, List.set_cons_succ]))
          refine Plan.ends ?_
          rw [← HQ.out] at K
          go_wp2_with fail
          go_roundw
          case rel => exact ⟨j + 1, k, _, by go_num, by omega, rfl, by omega, K⟩
          case measure => simp [intOf]; omega
    · obtain rfl : j = n := by omega
      have hjI : ¬ (j : Int) < (j : Int) := by omega
      go_wp2_with fail
      go_ret
      obtain ⟨a9, c9, e9, l9⟩ := owns_list (F := fun b => w.heap.size ≤ b) vrOk (K.own 0 rfl) (fun b h9 => ((K.own 0 rfl).lt b h9).1)
      subst e9
      exact ⟨_, _, _, rfl, l9, K.hb⟩
end Go.Proofs.Ytkamadeekkccgaa.Ents

/- Right histories, as an inductive set: what they keep. Plain mathematics. -/
namespace Go.Proofs.Ytkamadeekkccgaa.HisMath
structure RInv (L : List Ev) (x : Ev) : Prop where
  ret : x.ret = false
  q0 : 0 ≤ x.queue
  q4 : x.queue < 4
  s0 : 0 ≤ x.serial
  fresh : ∀ y ∈ L, y.serial ≠ x.serial
  err : x.err = 0
  res : x.res.size = 0
structure RRet (L : List Ev) (x : Ev) : Prop where
  ret : x.ret = true
  q0 : 0 ≤ x.queue
  q4 : x.queue < 4
  s0 : 0 ≤ x.serial
  one : ∃ y ∈ L, y.ret = false ∧ y.serial = x.serial ∧ y.queue = x.queue ∧ y.kind = x.kind ∧ y.block = x.block ∧ y.data = x.data
  open' : ∀ y ∈ L, y.ret = true → y.serial ≠ x.serial
  fits : fitsB x.kind x.err x.res.size = true
inductive Right : List Ev → Prop
  | nil : Right []
  | inv {L x} : Right L → RInv L x → Right (L ++ [x])
  | ret {L x} : Right L → RRet L x → Right (L ++ [x])
theorem seek_neg {p : Ev → Bool} {l : List Ev} : seek p l < 0 ↔ ∀ x ∈ l, p x = false := by
  unfold seek
  cases h : l.findIdx? p with
  | none =>
    rw [List.findIdx?_eq_none_iff] at h
    exact ⟨fun _ => h, fun _ => by simp⟩
  | some i =>
    obtain ⟨hi, hp, _⟩ := List.findIdx?_eq_some_iff_getElem.1 h
    constructor
    · intro h1; simp at h1; omega
    · intro h1
      have := h1 _ (List.getElem_mem hi)
      rw [hp] at this; cases this
theorem seek_is {p : Ev → Bool} {l : List Ev} (h : 0 ≤ seek p l) : ∃ (i : Nat) (y : Ev), seek p l = (i : Int) ∧ l[i]? = some y ∧ p y = true ∧ ∀ (j : Nat) (z : Ev), j < i → l[j]? = some z → p z = false := by
  unfold seek at h ⊢
  cases hf : l.findIdx? p with
  | none => rw [hf] at h; simp at h
  | some i =>
    obtain ⟨h1, h2, h3⟩ := List.findIdx?_eq_some_iff_getElem.1 hf
    refine ⟨i, l[i], rfl, List.getElem?_eq_getElem h1, h2, fun j z hj hz => ?_⟩
    have := h3 j hj
    obtain ⟨hl, rfl⟩ := List.getElem?_eq_some_iff.1 hz
    simpa using this
theorem inv_neg {L : List Ev} {s : Int} : invI L s < 0 ↔ ∀ y ∈ L, y.ret = false → y.serial ≠ s := by
  unfold invI
  rw [seek_neg]
  constructor
  · intro h y hy hr hs
    have := h y hy
    simp [invP, hr, hs] at this
  · intro h y hy
    cases hr : y.ret
    · have := h y hy hr
      simp [invP, hr, this]
    · simp [invP, hr]
theorem ret_neg {L : List Ev} {s : Int} : retI L s < 0 ↔ ∀ y ∈ L, y.ret = true → y.serial ≠ s := by
  unfold retI
  rw [seek_neg]
  constructor
  · intro h y hy hr hs
    have := h y hy
    simp [retP, hr, hs] at this
  · intro h y hy
    cases hr : y.ret
    · simp [retP, hr]
    · have := h y hy hr
      simp [retP, hr, this]
theorem Right.one {L : List Ev} (h : Right L) : ∀ (i j : Nat) (x y : Ev), L[i]? = some x → L[j]? = some y → x.ret = false → y.ret = false → x.serial = y.serial → i = j := by
  induction h with
  | nil => intro i j x y hi; simp at hi
  | @inv L x hL hx ih =>
    intro i j a b hi hj ra rb hs
    rcases Nat.lt_trichotomy i L.length with h1 | h1 | h1
    · rw [List.getElem?_append_left h1] at hi
      rcases Nat.lt_trichotomy j L.length with h2 | h2 | h2
      · rw [List.getElem?_append_left h2] at hj
        exact ih i j a b hi hj ra rb hs
      · subst h2
        rw [List.getElem?_append_right (Nat.le_refl _), Nat.sub_self] at hj
        obtain rfl := Option.some.inj (show some x = some b from hj)
        exact absurd hs (hx.fresh a (List.mem_of_getElem? hi))
      · rw [List.getElem?_eq_none (by simp; omega)] at hj; cases hj
    · subst h1
      rw [List.getElem?_append_right (Nat.le_refl _), Nat.sub_self] at hi
      obtain rfl := Option.some.inj (show some x = some a from hi)
      rcases Nat.lt_trichotomy j L.length with h2 | h2 | h2
      · rw [List.getElem?_append_left h2] at hj
        exact absurd hs.symm (hx.fresh b (List.mem_of_getElem? hj))
      · exact h2.symm
      · rw [List.getElem?_eq_none (by simp; omega)] at hj; cases hj
    · rw [List.getElem?_eq_none (by simp; omega)] at hi; cases hi
  | @ret L x hL hx ih =>
    intro i j a b hi hj ra rb hs
    have key : ∀ (k : Nat) (c : Ev), (L ++ [x])[k]? = some c → c.ret = false → L[k]? = some c := by
      intro k c hk hc
      rcases Nat.lt_trichotomy k L.length with h1 | h1 | h1
      · rwa [List.getElem?_append_left h1] at hk
      · subst h1
        rw [List.getElem?_append_right (Nat.le_refl _), Nat.sub_self] at hk
        obtain rfl := Option.some.inj (show some x = some c from hk)
        rw [hx.ret] at hc; cases hc
      · rw [List.getElem?_eq_none (by simp; omega)] at hk; cases hk
    exact ih i j a b (key i a hi ra) (key j b hj rb) ra rb hs
theorem Right.inv_at {L : List Ev} (h : Right L) {y : Ev} (hy : y ∈ L) (hr : y.ret = false) : 0 ≤ invI L y.serial ∧ L[(invI L y.serial).toNat]? = some y := by
  have h0 : 0 ≤ invI L y.serial := by
    rcases Int.lt_or_le (invI L y.serial) 0 with h1 | h1
    · exact absurd rfl (inv_neg.1 h1 y hy hr)
    · exact h1
  refine ⟨h0, ?_⟩
  obtain ⟨i, z, hi, hz, hp, _⟩ := seek_is h0
  obtain ⟨j, hj⟩ := List.mem_iff_getElem?.1 hy
  simp only [invP, Bool.and_eq_true, decide_eq_true_eq] at hp
  have hzr : z.ret = false := by have := hp.1; cases hq : z.ret <;> simp_all
  have := h.one i j z y hz hj hzr hr hp.2
  subst this
  rw [show invI L y.serial = (i : Int) from hi, Int.toNat_natCast]
  exact hj
/-- what the document asks of an event behind a right history -/
theorem right_step {L : List Ev} (h : Right L) (x : Ev) : rightB L x = true ↔ RInv L x ∨ RRet L x := by
  unfold rightB
  by_cases hq : x.queue < 0 ∨ 4 ≤ x.queue ∨ x.serial < 0
  · rw [if_pos hq]
    constructor
    · intro h; cases h
    · rintro (h1 | h1)
      · have := h1.q0; have := h1.q4; have := h1.s0; omega
      · have := h1.q0; have := h1.q4; have := h1.s0; omega
  · rw [if_neg hq]
    have b1 : 0 ≤ x.queue := by omega
    have b2 : x.queue < 4 := by omega
    have b3 : 0 ≤ x.serial := by omega
    cases hr : x.ret
    · rw [if_pos rfl]
      simp only [Bool.and_eq_true, decide_eq_true_eq]
      constructor
      · rintro ⟨⟨h1, h2⟩, h3, h4⟩
        refine .inl ⟨hr, b1, b2, b3, fun y hy => ?_, h3, h4⟩
        cases hyr : y.ret
        · exact inv_neg.1 h1 y hy hyr
        · exact ret_neg.1 h2 y hy hyr
      · rintro (h1 | h1)
        · exact ⟨⟨inv_neg.2 (fun y hy _ => h1.fresh y hy), ret_neg.2 (fun y hy _ => h1.fresh y hy)⟩, h1.err, h1.res⟩
        · rw [h1.ret] at hr; cases hr
    · rw [if_neg (by decide)]
      constructor
      · intro h1
        by_cases h0 : 0 ≤ invI L x.serial
        · rw [if_pos h0] at h1
          obtain ⟨i, z, hi, hz, hp, _⟩ := seek_is h0
          rw [show invI L x.serial = (i : Int) from hi, Int.toNat_natCast, hz] at h1
          simp only [Bool.and_eq_true, decide_eq_true_eq] at h1
          simp only [invP, Bool.and_eq_true, decide_eq_true_eq] at hp
          have hzr : z.ret = false := by have := hp.1; cases hq : z.ret <;> simp_all
          obtain ⟨⟨⟨h2, h3⟩, ⟨h4, h5⟩, h6⟩, h7⟩ := h1
          exact .inr ⟨hr, b1, b2, b3, ⟨z, List.mem_of_getElem? hz, hzr, hp.2, h3.symm, h4.symm, h5.symm, h6.symm⟩, ret_neg.1 h2, h7⟩
        · rw [if_neg h0] at h1; cases h1
      · rintro (h1 | h1)
        · rw [h1.ret] at hr; cases hr
        · obtain ⟨y, hy, hyr, hs, h3, h4, h5, h6⟩ := h1.one
          obtain ⟨h7, h8⟩ := h.inv_at hy hyr
          rw [hs] at h7 h8
          rw [if_pos h7, h8]
          simp only [Bool.and_eq_true, decide_eq_true_eq]
          exact ⟨⟨⟨ret_neg.2 h1.open', h3.symm⟩, ⟨h4.symm, h5.symm⟩, h6.symm⟩, h1.fits⟩
theorem rights_snoc (L : List Ev) (x : Ev) : rightsB (L ++ [x]) = (rightsB L && rightB L x) := by
  unfold rightsB
  rw [List.length_append, List.length_singleton, List.range_succ, List.all_append, List.all_cons, List.all_nil, Bool.and_true]
  congr 1
  · apply Bool.eq_iff_iff.2
    simp only [List.all_eq_true, List.mem_range]
    have e : ∀ i, i < L.length → rightAt (L ++ [x]) i = rightAt L i := fun i hi => by
      unfold rightAt
      rw [List.getElem?_append_left hi, List.take_append_of_le_length (by omega)]
    exact ⟨fun h i hi => by rw [← e i hi]; exact h i hi, fun h i hi => by rw [e i hi]; exact h i hi⟩
  · unfold rightAt
    rw [List.getElem?_append_right (Nat.le_refl _), Nat.sub_self, List.take_append_of_le_length (Nat.le_refl _), List.take_length]
    rfl
theorem snoc_ind {α : Type} {P : List α → Prop} (h0 : P []) (h1 : ∀ L x, P L → P (L ++ [x])) : ∀ L, P L := by
  intro L
  rw [← List.reverse_reverse L]
  induction L.reverse with
  | nil => exact h0
  | cons x M ih => rw [List.reverse_cons]; exact h1 _ _ ih
theorem rights_iff (L : List Ev) : rightsB L = true ↔ Right L := by
  revert L
  refine snoc_ind ⟨fun _ => .nil, fun _ => rfl⟩ fun L x ih => ?_
  rw [rights_snoc, Bool.and_eq_true, ih]
  constructor
  · rintro ⟨h1, h2⟩
    rcases (right_step h1 x).1 h2 with h3 | h3
    · exact .inv h1 h3
    · exact .ret h1 h3
  · intro h
    generalize hM : L ++ [x] = M at h
    cases h with
    | nil => simp at hM
    | inv h1 h2 =>
      obtain ⟨rfl, h3⟩ := List.append_inj' hM rfl
      obtain rfl := List.singleton_inj.1 h3
      exact ⟨h1, (right_step h1 _).2 (.inl h2)⟩
    | ret h1 h2 =>
      obtain ⟨rfl, h3⟩ := List.append_inj' hM rfl
      obtain rfl := List.singleton_inj.1 h3
      exact ⟨h1, (right_step h1 _).2 (.inr h2)⟩
theorem right_snoc {L : List Ev} {x : Ev} (h : Right (L ++ [x])) : Right L ∧ (RInv L x ∨ RRet L x) := by
  have h1 := (rights_iff _).2 h
  rw [rights_snoc, Bool.and_eq_true] at h1
  have h2 := (rights_iff L).1 h1.1
  exact ⟨h2, (right_step h2 x).1 h1.2⟩
theorem right_front {L : List Ev} : ∀ {M : List Ev}, Right (L ++ M) → Right L := by
  intro M
  revert M
  apply snoc_ind
  · intro h; rwa [List.append_nil] at h
  · intro M x ih h
    rw [← List.append_assoc] at h
    exact ih (right_snoc h).1
theorem right_take {L : List Ev} (h : Right L) (n : Nat) : Right (L.take n) := by
  rw [← List.take_append_drop n L] at h
  exact right_front h
theorem check_right {L : List Ev} {b : Int} (h : Right L) (h1 : 1 ≤ b) (h2 : b ≤ 128) (h3 : L.length ≤ 400) : checkE b L = 0 := by
  unfold checkE
  rw [if_neg (by omega), if_neg (by omega), if_pos ((rights_iff L).2 h)]
end Go.Proofs.Ytkamadeekkccgaa.HisMath

/- Right histories: the order of their operations, what is pending, the parts of a block. Plain mathematics. -/
namespace Go.Proofs.Ytkamadeekkccgaa.HisMath
theorem ret_is {x : Ev} {s : Int} (h : retP s x = true) : x.ret = true ∧ x.serial = s := by
  simp only [retP, Bool.and_eq_true, decide_eq_true_eq] at h
  exact h
theorem inv_is {x : Ev} {s : Int} (h : invP s x = true) : x.ret = false ∧ x.serial = s := by
  simp only [invP, Bool.and_eq_true, decide_eq_true_eq] at h
  exact ⟨by cases hq : x.ret <;> simp_all, h.2⟩
/-- the invocation of what was returned stands before its return -/
theorem Right.ahead {L : List Ev} (h : Right L) : ∀ (i : Nat) (x : Ev), L[i]? = some x → x.ret = true → ∃ (p : Nat) (y : Ev), p < i ∧ L[p]? = some y ∧ y.ret = false ∧ y.serial = x.serial := by
  induction h with
  | nil => intro i x hi; simp at hi
  | @inv L x hL hx ih =>
    intro i a hi ra
    rcases Nat.lt_trichotomy i L.length with h1 | h1 | h1
    · rw [List.getElem?_append_left h1] at hi
      obtain ⟨p, y, h2, h3, h4⟩ := ih i a hi ra
      exact ⟨p, y, h2, by rw [List.getElem?_append_left (by omega)]; exact h3, h4⟩
    · subst h1
      rw [List.getElem?_append_right (Nat.le_refl _), Nat.sub_self] at hi
      obtain rfl := Option.some.inj (show some x = some a from hi)
      rw [hx.ret] at ra; cases ra
    · rw [List.getElem?_eq_none (by simp; omega)] at hi; cases hi
  | @ret L x hL hx ih =>
    intro i a hi ra
    rcases Nat.lt_trichotomy i L.length with h1 | h1 | h1
    · rw [List.getElem?_append_left h1] at hi
      obtain ⟨p, y, h2, h3, h4⟩ := ih i a hi ra
      exact ⟨p, y, h2, by rw [List.getElem?_append_left (by omega)]; exact h3, h4⟩
    · subst h1
      rw [List.getElem?_append_right (Nat.le_refl _), Nat.sub_self] at hi
      obtain rfl := Option.some.inj (show some x = some a from hi)
      obtain ⟨y, hy, h4, h5, _⟩ := hx.one
      obtain ⟨p, hp⟩ := List.mem_iff_getElem?.1 hy
      have hpl := (List.getElem?_eq_some_iff.1 hp).1
      exact ⟨p, y, hpl, by rw [List.getElem?_append_left hpl]; exact hp, h4, h5⟩
    · rw [List.getElem?_eq_none (by simp; omega)] at hi; cases hi
theorem Right.inv_before {L : List Ev} (h : Right L) {s : Int} (h0 : 0 ≤ retI L s) : 0 ≤ invI L s ∧ invI L s < retI L s := by
  obtain ⟨i, x, hi, hx, hp, _⟩ := seek_is h0
  obtain ⟨hr, hs⟩ := ret_is hp
  obtain ⟨p, y, hpi, hy, hyr, hys⟩ := h.ahead i x hx hr
  have h1 := h.inv_at (List.mem_of_getElem? hy) hyr
  rw [hys, hs] at h1
  obtain ⟨j, z, hj, hz, hpz, _⟩ := seek_is h1.1
  obtain ⟨hzr, hzs⟩ := inv_is hpz
  have := h.one j p z y hz hy hzr hyr (by rw [hzs, hys, hs])
  have e1 : invI L s = (j : Int) := hj
  have e2 : retI L s = (i : Int) := hi
  omega
theorem before_irr {L : List Ev} (h : Right L) (s : Int) : beforeB L s s = false := by
  cases hb : beforeB L s s with
  | false => rfl
  | true =>
    simp only [beforeB, Bool.and_eq_true, decide_eq_true_eq] at hb
    have := (h.inv_before hb.1.1).2
    omega
theorem before_asym {L : List Ev} (h : Right L) {s t : Int} (h1 : beforeB L s t = true) : beforeB L t s = false := by
  cases hb : beforeB L t s with
  | false => rfl
  | true =>
    simp only [beforeB, Bool.and_eq_true, decide_eq_true_eq] at hb h1
    have := (h.inv_before hb.1.1).2
    have := (h.inv_before h1.1.1).2
    omega
theorem before_trans {L : List Ev} (h : Right L) {s t u : Int} (h1 : beforeB L s t = true) (h2 : beforeB L t u = true) : beforeB L s u = true := by
  simp only [beforeB, Bool.and_eq_true, decide_eq_true_eq] at h1 h2 ⊢
  have := (h.inv_before h2.1.1).2
  omega
/-- an operation is pending -/
def openB (L : List Ev) (e : Ev) : Bool := !e.ret && decide (retI L e.serial < 0)
theorem right_fresh {L : List Ev} (h : Right L) {j : Nat} {e : Ev} (he : L[j]? = some e) (hr : e.ret = false) : invI (L.take j) e.serial < 0 := by
  rw [inv_neg]
  intro y hy hyr hs
  obtain ⟨i, hi⟩ := List.mem_iff_getElem?.1 hy
  have hil := (List.getElem?_eq_some_iff.1 hi).1
  rw [List.length_take] at hil
  rw [List.getElem?_take, if_pos (by omega)] at hi
  have := h.one i j y e hi he hyr hr hs
  omega
theorem ops_right {L : List Ev} (h : Right L) : ∀ n, n ≤ L.length → opsE L n = ((L.take n).filter (fun e => !e.ret)).map (opOf L)
  | 0, _ => by simp [opsE]
  | n + 1, hn => by
    have he : L[n]? = some L[n] := List.getElem?_eq_getElem (by omega)
    have h1 : L.take (n + 1) = L.take n ++ [L[n]] := by rw [List.take_succ_eq_append_getElem (by omega)]
    rw [opsE, he, h1, List.filter_append, List.map_append, ← ops_right h n (by omega)]
    cases hr : L[n].ret
    · have hf := right_fresh h he hr
      have : opsB L n L[n] = true := by simp [opsB, hr, hf]
      simp only [this, if_true]
      simp [hr]
    · have : opsB L n L[n] = false := by simp [opsB, hr]
      simp [this, hr]
theorem pend_right {L : List Ev} (h : Right L) : ∀ n, n ≤ L.length → pendE L n = ((L.take n).filter (openB L)).map (·.serial)
  | 0, _ => by simp [pendE]
  | n + 1, hn => by
    have he : L[n]? = some L[n] := List.getElem?_eq_getElem (by omega)
    have h1 : L.take (n + 1) = L.take n ++ [L[n]] := by rw [List.take_succ_eq_append_getElem (by omega)]
    rw [pendE, he, h1, List.filter_append, List.map_append, ← pend_right h n (by omega)]
    cases hr : L[n].ret
    · have hf := right_fresh h he hr
      have e1 : pendB L n L[n] = openB L L[n] := by simp [pendB, openB, hr, hf]
      simp only [e1]
      cases hb : openB L L[n]
      · rw [List.filter_cons_of_neg (by simp [hb])]; simp
      · rw [List.filter_cons_of_pos hb]; simp
    · have e1 : pendB L n L[n] = false := by simp [pendB, hr]
      have e2 : openB L L[n] = false := by simp [openB, hr]
      simp [e1, e2]
theorem op_open {L : List Ev} {e : Ev} (hr : e.ret = false) : (opOf L e).ret = !openB L e ∧ (opOf L e).serial = e.serial := by
  unfold opOf openB
  rw [hr]
  by_cases h : 0 ≤ retI L e.serial
  · obtain ⟨i, y, hi, hy, _⟩ := seek_is h
    rw [if_pos h, show retI L e.serial = (i : Int) from hi, Int.toNat_natCast, hy]
    simp
  · rw [if_neg h]
    simp [hr]; omega
theorem open_snoc (L : List Ev) (x e : Ev) (he : openB (L ++ [x]) e = true) : openB L e = true := by
  simp only [openB, Bool.and_eq_true, decide_eq_true_eq] at he ⊢
  refine ⟨he.1, ret_neg.2 fun y hy hr => ?_⟩
  exact ret_neg.1 he.2 y (List.mem_append_left _ hy) hr
def invs (L : List Ev) : List Ev := L.filter (fun e => !e.ret)
def rets (L : List Ev) : List Ev := L.filter (fun e => e.ret)
/-- a list whose one element with p is not one with q, and all others are alike: one less -/
theorem filter_less {α : Type} {p q : α → Bool} {L : List α} {a : α} (ha : a ∈ L) (hp : p a = true) (hq : q a = false) (h : ∀ b ∈ L, q b = true → p b = true) (hl : ∀ b ∈ L, p b = true → q b = false → b = a) (hn : L.Pairwise (fun x y => ¬ (p x = true ∧ p y = true ∧ x = y))) : (L.filter p).length = (L.filter q).length + 1 := by
  induction L with
  | nil => cases ha
  | cons b L ih =>
    rw [List.pairwise_cons] at hn
    by_cases hba : b = a
    · subst hba
      have hnone : ∀ c ∈ L, p c = q c := fun c hc => by
        cases hqc : q c
        · cases hpc : p c
          · rfl
          · have := hl c (List.mem_cons_of_mem _ hc) hpc hqc
            subst this
            exact absurd ⟨hp, hp, rfl⟩ (hn.1 c hc)
        · exact h c (List.mem_cons_of_mem _ hc) hqc
      rw [List.filter_cons_of_pos hp, List.filter_cons_of_neg (by simp [hq]), List.length_cons, List.filter_congr hnone]
    · have ha' : a ∈ L := by rcases List.mem_cons.1 ha with h1 | h1; exact absurd h1.symm hba; exact h1
      have := ih ha' (fun c hc => h c (List.mem_cons_of_mem _ hc)) (fun c hc => hl c (List.mem_cons_of_mem _ hc)) hn.2
      cases hqb : q b
      · cases hpb : p b
        · rw [List.filter_cons_of_neg (by simp [hpb]), List.filter_cons_of_neg (by simp [hqb]), this]
        · exact absurd (hl b List.mem_cons_self hpb hqb) hba
      · have hpb := h b List.mem_cons_self hqb
        rw [List.filter_cons_of_pos hpb, List.filter_cons_of_pos hqb, List.length_cons, List.length_cons, this]
theorem right_apart {L : List Ev} (h : Right L) : L.Pairwise (fun x y => ¬ (x.ret = false ∧ y.ret = false ∧ x.serial = y.serial)) := by
  rw [List.pairwise_iff_getElem]
  intro i j hi hj hij ⟨h1, h2, h3⟩
  have := h.one i j L[i] L[j] (List.getElem?_eq_getElem hi) (List.getElem?_eq_getElem hj) h1 h2 h3
  omega
theorem open_count {L : List Ev} (h : Right L) : (L.filter (openB L)).length + (rets L).length = (invs L).length := by
  induction h with
  | nil => rfl
  | @inv L x hL hx ih =>
    have e1 : rets (L ++ [x]) = rets L := by simp [rets, hx.ret]
    have e2 : (invs (L ++ [x])).length = (invs L).length + 1 := by simp [invs, hx.ret]
    have e3 : ((L ++ [x]).filter (openB (L ++ [x]))).length = (L.filter (openB L)).length + 1 := by
      rw [List.filter_append]
      have f1 : ∀ e ∈ L, openB (L ++ [x]) e = openB L e := fun e _ => by
        have : ∀ s, (retI (L ++ [x]) s < 0) ↔ retI L s < 0 := fun s => by
          rw [ret_neg, ret_neg]
          constructor
          · exact fun h y hy => h y (List.mem_append_left _ hy)
          · intro h y hy hr
            rcases List.mem_append.1 hy with h1 | h1
            · exact h y h1 hr
            · rw [List.mem_singleton.1 h1, hx.ret] at hr; cases hr
        simp only [openB, this]
      have f2 : openB (L ++ [x]) x = true := by
        simp only [openB, hx.ret, Bool.not_false, Bool.true_and, decide_eq_true_eq, ret_neg]
        intro y hy hr
        rcases List.mem_append.1 hy with h1 | h1
        · exact hx.fresh y h1
        · rw [List.mem_singleton.1 h1, hx.ret] at hr; cases hr
      rw [List.filter_congr f1]
      simp [f2]
    rw [e1]
    omega
  | @ret L x hL hx ih =>
    obtain ⟨a, ha, har, has, _⟩ := hx.one
    have e1 : (rets (L ++ [x])).length = (rets L).length + 1 := by simp [rets, hx.ret]
    have e2 : invs (L ++ [x]) = invs L := by simp [invs, hx.ret]
    have e3 : (L.filter (openB L)).length = ((L ++ [x]).filter (openB (L ++ [x]))).length + 1 := by
      have f0 : openB (L ++ [x]) x = false := by simp [openB, hx.ret]
      rw [List.filter_append, List.filter_cons_of_neg (by simp [f0]), List.filter_nil, List.append_nil]
      have hra : openB L a = true := by
        simp only [openB, har, Bool.not_false, Bool.true_and, decide_eq_true_eq, ret_neg]
        intro y hy hr
        rw [has]
        exact hx.open' y hy hr
      have hrb : openB (L ++ [x]) a = false := by
        simp only [openB, har, Bool.not_false, Bool.true_and, decide_eq_false_iff_not, ret_neg]
        intro h
        exact h x (by simp) hx.ret has.symm
      refine filter_less ha hra hrb (fun b _ h => open_snoc L x b h) (fun b hb h1 h2 => ?_) ?_
      · have hbr : b.ret = false := by simp only [openB, Bool.and_eq_true] at h1; have := h1.1; cases hq : b.ret <;> simp_all
        have hbs : b.serial = a.serial := by
          rcases Int.lt_or_le (retI (L ++ [x]) b.serial) 0 with h3 | h3
          · simp [openB, hbr, h3] at h2
          · obtain ⟨i, y, hi, hy, hp, _⟩ := seek_is h3
            obtain ⟨hyr, hys⟩ := ret_is hp
            rcases List.mem_append.1 (List.mem_of_getElem? hy) with h4 | h4
            · simp only [openB, Bool.and_eq_true, decide_eq_true_eq] at h1
              exact absurd hys (ret_neg.1 h1.2 y h4 hyr)
            · rw [List.mem_singleton.1 h4] at hys
              rw [has]; exact hys.symm
        obtain ⟨i, hi⟩ := List.mem_iff_getElem?.1 hb
        obtain ⟨j, hj⟩ := List.mem_iff_getElem?.1 ha
        have := hL.one i j b a hi hj hbr har hbs
        subst this
        rw [hi] at hj
        exact Option.some.inj hj
      · refine (right_apart hL).imp fun {c d} hcd ⟨h1, h2, h3⟩ => hcd ?_
        subst h3
        have : c.ret = false := by simp only [openB, Bool.and_eq_true] at h1; have := h1.1; cases hq : c.ret <;> simp_all
        exact ⟨this, this, rfl⟩
    rw [e2]
    omega
/-- a part of a right history that is chosen by the commands is right -/
theorem right_filter {L : List Ev} (h : Right L) {p : Ev → Bool} (hp : ∀ x y : Ev, x.kind = y.kind → x.block = y.block → p x = p y) : Right (L.filter p) := by
  induction h with
  | nil => exact .nil
  | @inv L x hL hx ih =>
    rw [List.filter_append]
    cases hq : p x
    · rw [List.filter_cons_of_neg (by simp [hq]), List.filter_nil, List.append_nil]; exact ih
    · rw [List.filter_cons_of_pos hq, List.filter_nil]
      exact .inv ih ⟨hx.ret, hx.q0, hx.q4, hx.s0, fun y hy => hx.fresh y (List.mem_filter.1 hy).1, hx.err, hx.res⟩
  | @ret L x hL hx ih =>
    rw [List.filter_append]
    cases hq : p x
    · rw [List.filter_cons_of_neg (by simp [hq]), List.filter_nil, List.append_nil]; exact ih
    · rw [List.filter_cons_of_pos hq, List.filter_nil]
      obtain ⟨y, hy, h1, h2, h3, h4, h5, h6⟩ := hx.one
      exact .ret ih ⟨hx.ret, hx.q0, hx.q4, hx.s0, ⟨y, List.mem_filter.2 ⟨hy, by rw [hp y x h4 h5, hq]⟩, h1, h2, h3, h4, h5, h6⟩, fun z hz => hx.open' z (List.mem_filter.1 hz).1, hx.fits⟩
theorem right_rest {L : List Ev} (h : Right L) (b : Int) : Right (restE L b) :=
  right_filter h fun x y h1 h2 => by simp [restB, h1, h2]
/-- the parts of three blocks and the flushes are the whole -/
theorem rest_count {L : List Ev} (h : ∀ x ∈ L, 1 ≤ x.kind ∧ x.kind ≤ 4 ∧ 0 ≤ x.block ∧ x.block ≤ 2) : (restE L 0).length + (restE L 1).length + (restE L 2).length + (L.filter (fun x => decide (x.kind = 4))).length = L.length := by
  induction L with
  | nil => rfl
  | cons x L ih =>
    have h1 := ih (fun y hy => h y (List.mem_cons_of_mem _ hy))
    have hx := h x List.mem_cons_self
    unfold restE at h1 ⊢
    simp only [List.filter_cons]
    have hk : x.kind = 1 ∨ x.kind = 2 ∨ x.kind = 3 ∨ x.kind = 4 := by omega
    have hb : x.block = 0 ∨ x.block = 1 ∨ x.block = 2 := by omega
    rcases hk with hk | hk | hk | hk <;> rcases hb with hb | hb | hb <;> simp [restB, hk, hb] <;> omega
end Go.Proofs.Ytkamadeekkccgaa.HisMath

/- Histories in the making: what has happened, and which operations are open. Plain mathematics. -/
namespace Go.Proofs.Ytkamadeekkccgaa.HisMath
/-- O: what has happened; P: the invocations without a return; s: all numbers are below -/
structure Made (O P : List Ev) (s : Int) : Prop where
  right : Right O
  low : ∀ x ∈ O, x.serial < s
  cmd : ∀ x ∈ O, 1 ≤ x.kind ∧ x.kind ≤ 4 ∧ 0 ≤ x.block ∧ x.block ≤ 2
  calls : ∀ x ∈ P, x ∈ O ∧ x.ret = false
  open' : ∀ x ∈ P, ∀ y ∈ O, y.ret = true → y.serial ≠ x.serial
  apart : P.Pairwise (fun x y => x.serial ≠ y.serial)
theorem Made.start : Made [] [] 0 := ⟨.nil, by simp, by simp, by simp, by simp, .nil⟩
theorem Right.clean {L : List Ev} (h : Right L) : ∀ x ∈ L, x.ret = false → x.err = 0 ∧ x.res.size = 0 := by
  induction h with
  | nil => simp
  | inv hL hx ih =>
    intro y hy hr
    rcases List.mem_append.1 hy with h1 | h1
    · exact ih y h1 hr
    · rw [List.mem_singleton.1 h1]; exact ⟨hx.err, hx.res⟩
  | ret hL hx ih =>
    intro y hy hr
    rcases List.mem_append.1 hy with h1 | h1
    · exact ih y h1 hr
    · rw [List.mem_singleton.1 h1, hx.ret] at hr; cases hr
theorem Right.range {L : List Ev} (h : Right L) : ∀ x ∈ L, 0 ≤ x.queue ∧ x.queue < 4 ∧ 0 ≤ x.serial := by
  induction h with
  | nil => simp
  | inv hL hx ih =>
    intro y hy
    rcases List.mem_append.1 hy with h1 | h1
    · exact ih y h1
    · rw [List.mem_singleton.1 h1]; exact ⟨hx.q0, hx.q4, hx.s0⟩
  | ret hL hx ih =>
    intro y hy
    rcases List.mem_append.1 hy with h1 | h1
    · exact ih y h1
    · rw [List.mem_singleton.1 h1]; exact ⟨hx.q0, hx.q4, hx.s0⟩
theorem Made.calls_clean {O P : List Ev} {s : Int} (h : Made O P s) {k : Nat} {e : Ev} (he : P[k]? = some e) : e.ret = false ∧ e.err = 0 ∧ e.res.size = 0 ∧ 1 ≤ e.kind ∧ e.kind ≤ 4 := by
  have h1 := h.calls e (List.mem_of_getElem? he)
  have h2 := h.right.clean e h1.1 h1.2
  have h3 := h.cmd e h1.1
  exact ⟨h1.2, h2.1, h2.2, h3.1, h3.2.1⟩
/-- an operation is invoked -/
theorem Made.inv {O P : List Ev} {s : Int} (h : Made O P s) {x : Ev} (hr : x.ret = false) (q0 : 0 ≤ x.queue) (q4 : x.queue < 4) (hs : x.serial = s) (h0 : 0 ≤ s) (he : x.err = 0) (hx : x.res.size = 0)
    (hc : 1 ≤ x.kind ∧ x.kind ≤ 4 ∧ 0 ≤ x.block ∧ x.block ≤ 2) : Made (O ++ [x]) (P ++ [x]) (s + 1) := by
  refine ⟨.inv h.right ⟨hr, q0, q4, by omega, fun y hy => by have := h.low y hy; omega, he, hx⟩, fun y hy => ?_, fun y hy => ?_, fun y hy => ?_, fun y hy z hz hzr => ?_, ?_⟩
  · rcases List.mem_append.1 hy with h1 | h1
    · have := h.low y h1; omega
    · rw [List.mem_singleton.1 h1]; omega
  · rcases List.mem_append.1 hy with h1 | h1
    · exact h.cmd y h1
    · rw [List.mem_singleton.1 h1]; exact hc
  · rcases List.mem_append.1 hy with h1 | h1
    · exact ⟨List.mem_append_left _ (h.calls y h1).1, (h.calls y h1).2⟩
    · rw [List.mem_singleton.1 h1]; exact ⟨by simp, hr⟩
  · rcases List.mem_append.1 hz with h2 | h2
    · rcases List.mem_append.1 hy with h1 | h1
      · exact h.open' y h1 z h2 hzr
      · rw [List.mem_singleton.1 h1]; have := h.low z h2; omega
    · rw [List.mem_singleton.1 h2, hr] at hzr; cases hzr
  · rw [List.pairwise_append]
    refine ⟨h.apart, List.pairwise_singleton _ _, fun y hy z hz => ?_⟩
    rw [List.mem_singleton.1 hz]
    have := h.low y (h.calls y hy).1
    omega
/-- an open operation returns -/
theorem Made.ret {O P : List Ev} {s : Int} (h : Made O P s) {k : Nat} {e x : Ev} (he : P[k]? = some e) (hr : x.ret = true) (hq : x.queue = e.queue) (hs : x.serial = e.serial) (hk : x.kind = e.kind) (hb : x.block = e.block) (hd : x.data = e.data)
    (hf : fitsB x.kind x.err x.res.size = true) (t : Int) (ht : s ≤ t) : Made (O ++ [x]) (P.take k ++ P.drop (k + 1)) t := by
  have hm := List.mem_of_getElem? he
  have h1 := h.calls e hm
  have h2 := h.right.range e h1.1
  have hsub : ∀ y ∈ P.take k ++ P.drop (k + 1), y ∈ P := fun y hy => by
    rcases List.mem_append.1 hy with h3 | h3
    · exact List.mem_of_mem_take h3
    · exact List.mem_of_mem_drop h3
  have hpk : P = P.take k ++ e :: P.drop (k + 1) := by
    have hlt := (List.getElem?_eq_some_iff.1 he).1
    have h5 := (List.getElem?_eq_some_iff.1 he).2
    rw [← h5, List.getElem_cons_drop, List.take_append_drop]
  have hne : ∀ y ∈ P.take k ++ P.drop (k + 1), y.serial ≠ e.serial := fun y hy => by
    have hp := h.apart
    rw [hpk, List.pairwise_append, List.pairwise_cons] at hp
    rcases List.mem_append.1 hy with h3 | h3
    · exact hp.2.2 y h3 e List.mem_cons_self
    · exact fun h9 => hp.2.1.1 y h3 h9.symm
  refine ⟨.ret h.right ⟨hr, by omega, by omega, by omega, ⟨e, h1.1, h1.2, hs.symm, hq.symm, hk.symm, hb.symm, hd.symm⟩, fun y hy hyr => ?_, hf⟩, fun y hy => ?_, fun y hy => ?_, fun y hy => ?_, fun y hy z hz hzr => ?_, ?_⟩
  · rw [hs]; exact h.open' e hm y hy hyr
  · rcases List.mem_append.1 hy with h3 | h3
    · have := h.low y h3; omega
    · rw [List.mem_singleton.1 h3, hs]; have := h.low e h1.1; omega
  · rcases List.mem_append.1 hy with h3 | h3
    · exact h.cmd y h3
    · rw [List.mem_singleton.1 h3, hk, hb]; exact h.cmd e h1.1
  · exact ⟨List.mem_append_left _ (h.calls y (hsub y hy)).1, (h.calls y (hsub y hy)).2⟩
  · rcases List.mem_append.1 hz with h3 | h3
    · exact h.open' y (hsub y hy) z h3 hzr
    · rw [List.mem_singleton.1 h3, hs]; exact fun h9 => hne y hy h9.symm
  · have hp := h.apart
    rw [hpk, List.pairwise_append, List.pairwise_cons] at hp
    rw [List.pairwise_append]
    exact ⟨hp.1, hp.2.1.2, fun y hy z hz => hp.2.2 y hy z (List.mem_cons_of_mem _ hz)⟩
end Go.Proofs.Ytkamadeekkccgaa.HisMath

/- What the program's history keeps in its maps, and that it comes to the document's answers. Plain mathematics. -/
namespace Go.Proofs.Ytkamadeekkccgaa.HisMath
theorem take_snoc {α : Type} {L : List α} {j : Nat} {e : α} (h : L[j]? = some e) : L.take (j + 1) = L.take j ++ [e] := by
  rw [List.take_succ_eq_append_getElem (List.getElem?_eq_some_iff.1 h).1, (List.getElem?_eq_some_iff.1 h).2]
/-- the first invocations of the beginning -/
def callsE (L : List Ev) : Nat → List Ev
  | 0 => []
  | m + 1 => match L[m]? with
    | some e => if opsB L m e then callsE L m ++ [e] else callsE L m
    | none => callsE L m
theorem calls_next {L : List Ev} {j : Nat} {e : Ev} (h : L[j]? = some e) : (opsB L j e = true → callsE L (j + 1) = callsE L j ++ [e]) ∧ (opsB L j e = false → callsE L (j + 1) = callsE L j) :=
  ⟨fun hp => by simp [callsE, h, hp], fun hp => by simp [callsE, h, hp]⟩
theorem calls_map (L : List Ev) : ∀ n, (callsE L n).map (opOf L) = opsE L n
  | 0 => rfl
  | n + 1 => by
    have ih := calls_map L n
    cases h : L[n]? with
    | none => simp [callsE, opsE, h, ih]
    | some e =>
      cases hp : opsB L n e
      · simp [callsE, opsE, h, hp, ih]
      · simp [callsE, opsE, h, hp, ih]
theorem calls_len (L : List Ev) : ∀ n, (callsE L n).length ≤ n
  | 0 => Nat.le_refl _
  | n + 1 => by
    have ih := calls_len L n
    cases h : L[n]? with
    | none => simp [callsE, h]; omega
    | some e => cases hp : opsB L n e <;> simp [callsE, h, hp] <;> omega
theorem calls_inv (L : List Ev) : ∀ n, ∀ e ∈ callsE L n, e.ret = false
  | 0 => by simp [callsE]
  | n + 1 => by
    have ih := calls_inv L n
    cases h : L[n]? with
    | none => simpa [callsE, h] using ih
    | some e =>
      cases hp : opsB L n e
      · simpa [callsE, h, hp] using ih
      · intro x hx
        simp only [callsE, h, hp, if_true, List.mem_append, List.mem_singleton] at hx
        rcases hx with hx | rfl
        · exact ih x hx
        · cases hr : x.ret
          · rfl
          · simp [opsB, hr] at hp
/-- the Serials of invocations that have come -/
def SeenI (L : List Ev) (j : Nat) (Sn : List Int) : Prop := ∀ z, z ∈ Sn ↔ ¬ invI (L.take j) z < 0
theorem seen_start (L : List Ev) : SeenI L 0 [] := fun z => by simp [invI, seek]
theorem seen_ask {L : List Ev} {j : Nat} {Sn : List Int} (h : SeenI L j Sn) (z : Int) : decide (z ∈ Sn) = !decide (invI (L.take j) z < 0) := by
  by_cases h1 : invI (L.take j) z < 0
  · have : ¬ z ∈ Sn := fun h2 => (h z).1 h2 h1
    simp [this, h1]
  · have : z ∈ Sn := (h z).2 h1
    simp [this, h1]
theorem inv_snoc {L : List Ev} {x : Ev} {z : Int} : invI (L ++ [x]) z < 0 ↔ invI L z < 0 ∧ ¬ (x.ret = false ∧ x.serial = z) := by
  rw [inv_neg, inv_neg]
  constructor
  · intro h
    refine ⟨fun y hy => h y (List.mem_append_left _ hy), fun ⟨h1, h2⟩ => h x (by simp) h1 h2⟩
  · rintro ⟨h1, h2⟩ y hy hr hs
    rcases List.mem_append.1 hy with hy | hy
    · exact h1 y hy hr hs
    · obtain rfl := List.mem_singleton.1 hy
      exact h2 ⟨hr, hs⟩
theorem seen_same {L : List Ev} {j : Nat} {Sn : List Int} {e : Ev} (h : SeenI L j Sn) (he : L[j]? = some e) (hp : opsB L j e = false) : SeenI L (j + 1) Sn := fun z => by
  rw [h z, take_snoc he, inv_snoc]
  constructor
  · exact fun h1 h2 => h1 h2.1
  · rintro h1 h2
    refine h1 ⟨h2, fun ⟨h3, h4⟩ => ?_⟩
    subst h4
    simp [opsB, h3, h2] at hp
theorem seen_more {L : List Ev} {j : Nat} {Sn : List Int} {e : Ev} (h : SeenI L j Sn) (he : L[j]? = some e) (hp : opsB L j e = true) : SeenI L (j + 1) (e.serial :: Sn) := fun z => by
  have hr : e.ret = false := by cases hr : e.ret <;> simp_all [opsB]
  rw [List.mem_cons, h z, take_snoc he, inv_snoc]
  constructor
  · rintro (rfl | h1)
    · exact fun h2 => h2.2 ⟨hr, rfl⟩
    · exact fun h2 => h1 h2.1
  · intro h1
    by_cases h2 : invI (L.take j) z < 0
    · left
      rcases Classical.em (e.serial = z) with h3 | h3
      · exact h3.symm
      · exact absurd ⟨h2, fun h4 => h3 h4.2⟩ h1
    · exact .inr h2
/-- the first return of a Serial in the beginning -/
def retE (L : List Ev) (j : Nat) (z : Int) : Option Ev := (L.take j).find? (retP z)
theorem ret_start (L : List Ev) (z : Int) : retE L 0 z = none := by simp [retE]
theorem ret_next {L : List Ev} {j : Nat} {e : Ev} (he : L[j]? = some e) (z : Int) : retE L (j + 1) z = if e.ret = true ∧ e.serial = z ∧ retE L j z = none then some e else retE L j z := by
  unfold retE
  rw [take_snoc he, List.find?_append]
  cases h : (L.take j).find? (retP z) with
  | some y => simp
  | none =>
    by_cases h1 : e.ret = true ∧ e.serial = z
    · simp [retP, h1]
    · rw [if_neg (fun h2 => h1 ⟨h2.1, h2.2.1⟩)]
      have : retP z e = false := by
        cases hr : e.ret
        · simp [retP, hr]
        · have : e.serial ≠ z := fun h2 => h1 ⟨hr, h2⟩
          simp [retP, this]
      simp [this]
theorem op_found {L : List Ev} (e : Ev) : opOf L e = match retE L L.length e.serial with
    | some y => { e with ret := true, err := y.err, res := y.res }
    | none => e := by
  unfold opOf retE
  rw [List.take_length]
  by_cases h : 0 ≤ retI L e.serial
  · obtain ⟨i, y, hi, hy, hp, hq⟩ := seek_is h
    rw [if_pos h, show retI L e.serial = (i : Int) from hi, Int.toNat_natCast, hy]
    have : L.find? (retP e.serial) = some y := by
      rw [List.find?_eq_some_iff_getElem]
      obtain ⟨h1, h2⟩ := List.getElem?_eq_some_iff.1 hy
      exact ⟨hp, i, h1, h2, fun j hj => by have := hq j _ hj (List.getElem?_eq_getElem (by omega)); simp [this]⟩
    rw [this]
  · rw [if_neg h]
    have : L.find? (retP e.serial) = none := by
      rw [List.find?_eq_none]
      intro x hx
      have := seek_neg.1 (show seek (retP e.serial) L < 0 from by unfold retI at h; omega) x hx
      simp [this]
    rw [this]
/-- the last event of a Serial in the beginning -/
def lastE (L : List Ev) : Nat → Int → Option Ev
  | 0, _ => none
  | m + 1, z => match L[m]? with
    | some e => if e.serial = z then some e else lastE L m z
    | none => lastE L m z
theorem last_next {L : List Ev} {j : Nat} {e : Ev} (he : L[j]? = some e) : lastE L (j + 1) = fun z => if e.serial = z then some e else lastE L j z := by
  funext z
  simp [lastE, he]
theorem last_none {L : List Ev} {z : Int} : ∀ {j : Nat}, lastE L j z = none → ∀ y ∈ L.take j, y.serial ≠ z
  | 0, _ => by simp
  | j + 1, h => by
    cases he : L[j]? with
    | none =>
      rw [List.take_of_length_le (by rw [List.getElem?_eq_none_iff] at he; omega)]
      have h1 : lastE L j z = none := by simpa [lastE, he] using h
      have := last_none h1
      rw [List.take_of_length_le (by rw [List.getElem?_eq_none_iff] at he; omega)] at this
      exact this
    | some e =>
      have hz : ¬ e.serial = z := fun h1 => by simp [lastE, he, h1] at h
      have h1 : lastE L j z = none := by simpa [lastE, he, hz] using h
      rw [take_snoc he]
      intro y hy
      rcases List.mem_append.1 hy with hy | hy
      · exact last_none h1 y hy
      · obtain rfl := List.mem_singleton.1 hy
        exact hz
theorem last_some {L : List Ev} {z : Int} {y : Ev} : ∀ {j : Nat}, lastE L j z = some y → ∃ p, p < j ∧ L[p]? = some y ∧ y.serial = z ∧ ∀ (q : Nat) (x : Ev), p < q → q < j → L[q]? = some x → x.serial ≠ z
  | 0, h => by simp [lastE] at h
  | j + 1, h => by
    cases he : L[j]? with
    | none =>
      have h1 : lastE L j z = some y := by simpa [lastE, he] using h
      obtain ⟨p, h2, h3, h4, h5⟩ := last_some h1
      refine ⟨p, by omega, h3, h4, fun q x hp hq hx => ?_⟩
      by_cases hqj : q = j
      · subst hqj; rw [he] at hx; cases hx
      · exact h5 q x hp (by omega) hx
    | some e =>
      by_cases hz : e.serial = z
      · have h1 : e = y := by simpa [lastE, he, hz] using h
        subst h1
        exact ⟨j, by omega, he, hz, fun q x hp hq => by omega⟩
      · have h1 : lastE L j z = some y := by simpa [lastE, he, hz] using h
        obtain ⟨p, h2, h3, h4, h5⟩ := last_some h1
        refine ⟨p, by omega, h3, h4, fun q x hp hq hx => ?_⟩
        by_cases hqj : q = j
        · subst hqj; rw [he] at hx; obtain rfl := Option.some.inj hx; exact hz
        · exact h5 q x hp (by omega) hx
/-- whether an event is possible, whatever is before it -/
def possB (x : Ev) : Bool := if x.queue < 0 ∨ 4 ≤ x.queue ∨ x.serial < 0 then false else if x.ret then fitsB x.kind x.err x.res.size else decide (x.err = 0) && decide (x.res.size = 0)
def callOf (x : Ev) : Ev := { x with ret := false, err := 0, res := ⟨#[]⟩ }
def stepB (l : Option Ev) (x : Ev) : Bool := possB x && (l.isSome == x.ret) && (!x.ret || decide (l = some (callOf x)))
theorem size_zero {b : ByteArray} (h : b.size = 0) : b = ⟨#[]⟩ := by
  obtain ⟨d⟩ := b
  have : d.size = 0 := h
  rw [Array.size_eq_zero_iff] at this
  subst this
  rfl
theorem step_right {L : List Ev} {j : Nat} {x : Ev} (h : Right (L.take j)) (hx : L[j]? = some x) : stepB (lastE L j x.serial) x = rightB (L.take j) x := by
  have hlt := (List.getElem?_eq_some_iff.1 hx).1
  have hmem : ∀ (p : Nat) (y : Ev), p < j → L[p]? = some y → (L.take j)[p]? = some y := fun p y hp hy => by rw [List.getElem?_take_of_lt hp]; exact hy
  have hiff : stepB (lastE L j x.serial) x = true ↔ rightB (L.take j) x = true := by
    rw [right_step h]
    cases hr : x.ret
    · constructor
      · intro hs
        simp only [stepB, hr, Bool.not_false, Bool.true_or, Bool.and_true, Bool.and_eq_true] at hs
        obtain ⟨h1, h2⟩ := hs
        left
        have hn : lastE L j x.serial = none := by
          cases hl : lastE L j x.serial
          · rfl
          · rw [hl] at h2; simp at h2
        unfold possB at h1
        split at h1
        · cases h1
        · next hq =>
          rw [hr] at h1
          simp only [Bool.false_eq_true, if_false, Bool.and_eq_true, decide_eq_true_eq] at h1
          exact ⟨hr, by omega, by omega, by omega, last_none hn, h1.1, h1.2⟩
      · rintro (hi | hi)
        · have hn : lastE L j x.serial = none := by
            cases hl : lastE L j x.serial with
            | none => rfl
            | some y =>
              obtain ⟨p, h2, h3, h4, _⟩ := last_some hl
              exact absurd h4 (hi.fresh y (List.mem_of_getElem? (hmem p y h2 h3)))
          have hq : ¬ (x.queue < 0 ∨ 4 ≤ x.queue ∨ x.serial < 0) := by have := hi.q0; have := hi.q4; have := hi.s0; omega
          simp [stepB, possB, hq, hr, hn, hi.err, hi.res]
        · rw [hi.ret] at hr; cases hr
    · constructor
      · intro hs
        simp only [stepB, hr, Bool.not_true, Bool.false_or, Bool.and_eq_true, decide_eq_true_eq] at hs
        obtain ⟨⟨h1, _⟩, h2⟩ := hs
        right
        obtain ⟨p, hp, hy, h4, h5⟩ := last_some h2
        unfold possB at h1
        split at h1
        · cases h1
        · next hq =>
          refine ⟨hr, by omega, by omega, by omega, ⟨callOf x, List.mem_of_getElem? (hmem p _ hp hy), rfl, rfl, rfl, rfl, rfl, rfl⟩, ?_, h1⟩
          intro y hy' hyr hys
          obtain ⟨q, hq'⟩ := List.mem_iff_getElem?.1 hy'
          obtain ⟨p', c, hp', hc, hcr, hcs⟩ := h.ahead q y hq' hyr
          have hqj : q < j := by
            have := (List.getElem?_eq_some_iff.1 hq').1
            rw [List.length_take] at this
            omega
          have := h.one p' p c (callOf x) hc (hmem p _ hp hy) hcr rfl (by rw [hcs, hys]; rfl)
          subst this
          have hLq : L[q]? = some y := by rw [List.getElem?_take_of_lt hqj] at hq'; exact hq'
          exact h5 q y (by omega) hqj hLq hys
      · rintro (hi | hi)
        · rw [hi.ret] at hr; cases hr
        · have hq : ¬ (x.queue < 0 ∨ 4 ≤ x.queue ∨ x.serial < 0) := by have := hi.q0; have := hi.q4; have := hi.s0; omega
          obtain ⟨y, hy, yr, ys, yq, yk, yb, yd⟩ := hi.one
          obtain ⟨q, hq'⟩ := List.mem_iff_getElem?.1 hy
          have hqj : q < j := by
            have := (List.getElem?_eq_some_iff.1 hq').1
            rw [List.length_take] at this
            omega
          have hl : lastE L j x.serial = some (callOf x) := by
            cases hl : lastE L j x.serial with
            | none => exact absurd ys (last_none hl y hy)
            | some z =>
              obtain ⟨p, hp, hz, hzs, hafter⟩ := last_some hl
              have hzm := hmem p z hp hz
              have hzr : z.ret = false := by
                cases hzr : z.ret
                · rfl
                · exact absurd hzs (hi.open' z (List.mem_of_getElem? hzm) hzr)
              have hpq := h.one p q z y hzm hq' hzr yr (hzs.trans ys.symm)
              subst hpq
              rw [hzm] at hq'
              obtain rfl := Option.some.inj hq'
              have hcl := h.clean z hy hzr
              have hres := size_zero hcl.2
              congr 1
              obtain ⟨zr, zq, zs, zk, zb, zd, ze, zx⟩ := z
              simp only at yr ys yq yk yb yd hcl hres
              simp only [callOf]
              rw [yr, ys, yq, yk, yb, yd, hcl.1, hres]
          simp [stepB, possB, hq, hr, hl, hi.fits]
  cases h1 : stepB (lastE L j x.serial) x <;> cases h2 : rightB (L.take j) x <;> simp_all
theorem right_start (L : List Ev) : Right (L.take 0) := by rw [List.take_zero]; exact .nil
theorem right_more {L : List Ev} {j : Nat} {x : Ev} (h : Right (L.take j)) (hx : L[j]? = some x) (hr : rightB (L.take j) x = true) : Right (L.take (j + 1)) := by
  rw [take_snoc hx]
  rcases (right_step h x).1 hr with h1 | h1
  · exact .inv h h1
  · exact .ret h h1
theorem right_less {L : List Ev} {j : Nat} {x : Ev} (hx : L[j]? = some x) (hr : rightB (L.take j) x = false) : rightsB L = false :=
  rights_bad (List.getElem?_eq_some_iff.1 hx).1 (by simp [rightAt, hx, hr])
theorem right_all {L : List Ev} {j : Nat} (h : Right (L.take j)) (hj : j = L.length) : rightsB L = true := by
  subst hj
  rw [List.take_length] at h
  exact (rights_iff L).2 h
end Go.Proofs.Ytkamadeekkccgaa.HisMath
