
/- The walk of the law's agree of rings, with the program's contracts as an argument. -/
import Derived.Test.YtljdepnhhngbeaaRingTake
import Derived.Test.YtljdepnhhngbeaaBaseEnv
import Derived.Test.YtljdepnhhngbeaaBaseLoad
namespace Go.Proofs.Ytljdepnhhngbeaa.Ents
open Go.RowKit Plan RingMath Rws Env
structure RingOk : Prop where
  new : ∀ (F : Nat → Prop) (d : Int) (w : World), Calls Try.prog 6 #[.int .i64 d] w (GPost w F (newD d) [] (newE d))
  valid : ∀ (F : Nat → Prop) (L : List Rq) (d : Int) (a : Option Addr) (n c : Nat) (w : World), GList w F a n c L →
    Calls Try.prog 15 #[rgV d a n c] w fun r w' => r = .returned (.bool (validG d L)) ∧ Below w.heap.size w w'
  submit : ∀ (F : Nat → Prop) (L : List Rq) (d : Int) (a : Option Addr) (n c : Nat) (xs xk xb : Int) (xd : ByteArray) (w : World), GList w F a n c L →
    Calls Try.prog 11 #[rgV d a n c, .agg #[.int .i64 xs, .int .i64 xk, .int .i64 xb, .string xd]] w (GPost w F d (submitG d L ⟨xs, xk, xb, xd⟩) (submitE d L xs))
  take : ∀ (F : Nat → Prop) (L : List Rq) (d : Int) (a : Option Addr) (n c : Nat) (w : World), GList w F a n c L →
    Calls Try.prog 10 #[rgV d a n c] w (TPost w F d (takeG d L) (takeX d L) (takeB d L))
set_option maxHeartbeats 8000000 in
set_option maxRecDepth 20000 in
theorem ringAgree_any (H : RingOk) (F : Nat → Prop) (L : List Rq) (d : Int) (a : Option Addr) (n c : Nat) (xs xk xb : Int) (xd : ByteArray) (w : World) (hl : GList w F a n c L) :
    Calls Try.prog 8 #[rgV d a n c, .agg #[.int .i64 xs, .int .i64 xk, .int .i64 xb, .string xd]] w fun r w' => r = .returned (.bool true) ∧ Below w.heap.size w w' := by
  have H1 := Lib.hid (fun W F a n c (h : GList W F a n c L) => H.submit F L d a n c xs xk xb xd W h)
  have H2 := Lib.hid (fun W F a n c (h : GList W F a n c L) => refGSubmit_any F L d a n c xs xk xb xd W h)
  have H3 := Lib.hid (fun W F a n c (h : GList W F a n c L) => H.take F L d a n c W h)
  have H4 := Lib.hid (fun W F a n c (h : GList W F a n c L) => refGTake_any F L d a n c W h)
  have H5 := Lib.hid (fun W F a n c (h : GList W F a n c L) => H.valid F L d a n c W h)
  have H6 := Lib.hid (fun W F a n c (h : GList W F a n c L) => refGValid_any F L d a n c W h)
  have HS := Lib.hid (fun W F G L a b n c m k (h1 : GList W F a n c L) (h2 : GList W G b m k L) => refGSame_any F G L d a b n c m k W h1 h2)
  unfold GPost at H1 H2
  unfold TPost at H3 H4
  generalize submitG d L ⟨xs, xk, xb, xd⟩ = LS at *
  generalize submitE d L xs = ES at *
  generalize takeG d L = LT at *
  generalize hY : takeX d L = Y at *
  generalize takeB d L = BT at *
  generalize validG d L = BV at *
  obtain ⟨ys, yk, yb, yd⟩ := Y
  have l0 := ((hl.rest0).keep ((Env.start w).keep_al (rgRow d a n c))).keep (((Env.start w).al (rgRow d a n c)).keep_al (.cells #[.int .i64 xs, .int .i64 xk, .int .i64 xb, .string xd] 28))
  have K := ((Env.start w).al (rgRow d a n c)).al (.cells #[.int .i64 xs, .int .i64 xk, .int .i64 xb, .string xd] 28)
  simp only [World.size_alloc] at K l0
  have e0 := K.get 1 rfl
  have e1 := K.get 0 rfl
  clear hl hY
  go_enter Try.func8, Try.ntmps8
  generalize hw0 : (w.alloc (rgRow d a n c)).alloc (.cells #[.int .i64 xs, .int .i64 xk, .int .i64 xb, .string xd] 28) = w0 at *
  go_upto_region 5 with (first
    | ((with_reducible refine Plan.load_lit 24 (.tmp 2) (w.heap.size) ?_ e0 Try.underlying24 ?_ ?_ ?_); (· rfl); (· rfl); (· exact rg_info); simp only [Act.put, List.setIfInBounds_toArray, List.set_cons_zero, List.set_cons_succ])
    | ((with_reducible refine Plan.load_lit 28 (.tmp 3) (w.heap.size + 1) ?_ e1 Try.underlying28 ?_ ?_ ?_); (· rfl); (· rfl); (· exact rq_info); simp only [Act.put, List.setIfInBounds_toArray, List.set_cons_zero, List.set_cons_succ])
    | (go_at_call 11; ((with_reducible refine (H1.out _ _ _ _ _ l0).mono ?_); rintro r9 w1 ⟨a1, n1, c1, rfl, hx, hb⟩; have l1 := TList.result K hb hx; clear hx; replace l0 := l0.keep (K.keep_on hb); replace K := K.on hb; clear hb; have k9 := K.keep_al (F := F) (rgRow d a1 n1 c1); replace l0 := l0.keep k9; replace l1 := l1.keep k9; replace K := K.al (rgRow d a1 n1 c1); clear k9; have e0 := K.get 2 rfl; have e1 := K.get 1 rfl))
    | (go_at_call 13; ((with_reducible refine (H2.out _ _ _ _ _ l0).mono ?_); rintro r9 w2 ⟨a2, n2, c2, rfl, hx, hb⟩; have l2 := TList.result K hb hx; clear hx; replace l0 := l0.keep (K.keep_on hb); replace l1 := l1.keep (K.keep_on hb); replace K := K.on hb; clear hb; have k9 := K.keep_al (F := F) (rgRow d a2 n2 c2); replace l0 := l0.keep k9; replace l1 := l1.keep k9; replace l2 := l2.keep k9; replace K := K.al (rgRow d a2 n2 c2); clear k9; have e0 := K.get 3 rfl; have e1 := K.get 2 rfl))
    | (go_at_call 10; ((with_reducible refine (H3.out _ _ _ _ _ l0).mono ?_); rintro r9 w3 ⟨a3, n3, c3, rfl, hx, hb⟩; have l3 := TList.result K hb hx; clear hx; replace l0 := l0.keep (K.keep_on hb); replace l1 := l1.keep (K.keep_on hb); replace l2 := l2.keep (K.keep_on hb); replace K := K.on hb; clear hb; have k9 := K.keep_al (F := F) (rgRow d a3 n3 c3); replace l0 := l0.keep k9; replace l1 := l1.keep k9; replace l2 := l2.keep k9; replace l3 := l3.keep k9; replace K := K.al (rgRow d a3 n3 c3); clear k9; have k9 := K.keep_al (F := F) (rqRow ⟨ys, yk, yb, yd⟩); replace l0 := l0.keep k9; replace l1 := l1.keep k9; replace l2 := l2.keep k9; replace l3 := l3.keep k9; replace K := K.al (rqRow ⟨ys, yk, yb, yd⟩); clear k9; have e0 := K.get 5 rfl))
    | (go_at_call 14; ((with_reducible refine (H4.out _ _ _ _ _ l0).mono ?_); rintro r9 w4 ⟨a4, n4, c4, rfl, hx, hb⟩; have l4 := TList.result K hb hx; clear hx; replace l0 := l0.keep (K.keep_on hb); replace l1 := l1.keep (K.keep_on hb); replace l2 := l2.keep (K.keep_on hb); replace l3 := l3.keep (K.keep_on hb); replace K := K.on hb; clear hb; have k9 := K.keep_al (F := F) (rgRow d a4 n4 c4); replace l0 := l0.keep k9; replace l1 := l1.keep k9; replace l2 := l2.keep k9; replace l3 := l3.keep k9; replace l4 := l4.keep k9; replace K := K.al (rgRow d a4 n4 c4); clear k9; have k9 := K.keep_al (F := F) (rqRow ⟨ys, yk, yb, yd⟩); replace l0 := l0.keep k9; replace l1 := l1.keep k9; replace l2 := l2.keep k9; replace l3 := l3.keep k9; replace l4 := l4.keep k9; replace K := K.al (rqRow ⟨ys, yk, yb, yd⟩); clear k9; have e0 := K.get 7 rfl)))
  clear hw0
  simp only [World.size_alloc] at K l0 l1 l2 l3 l4
  generalize hw5 : (w4.alloc (rgRow d a4 n4 c4)).alloc (rqRow ⟨ys, yk, yb, yd⟩) = w5 at *
  clear hw5
  generalize w1.heap.size = G1 at *
  generalize w2.heap.size = G2 at *
  generalize w3.heap.size = G3 at *
  generalize w4.heap.size = G4 at *
  replace l0 := l0.keep K.keep_drew
  replace l1 := l1.keep K.keep_drew
  replace l2 := l2.keep K.keep_drew
  replace l3 := l3.keep K.keep_drew
  replace l4 := l4.keep K.keep_drew
  replace K := K.drew
  refine Plan.start (fun W => W.heap[w.heap.size]? = some (rgRow d a n c) ∧ W.heap[G1]? = some (rgRow d a1 n1 c1) ∧ W.heap[G2]? = some (rgRow d a2 n2 c2) ∧ W.heap[G3]? = some (rgRow d a3 n3 c3) ∧ W.heap[G3 + 1]? = some (.cells #[.int .i64 ys, .int .i64 yk, .int .i64 yb, .string yd] 28) ∧ W.heap[G4]? = some (rgRow d a4 n4 c4) ∧ W.heap[G4 + 1]? = some (.cells #[.int .i64 ys, .int .i64 yk, .int .i64 yb, .string yd] 28)) [(0, true), (1, true), (2, true), (3, true), (4, true), (5, true), (6, true), (7, true), (8, true), (9, true), (10, true), (11, true), (12, true), (13, true), (14, true), (15, true), (16, false), (17, true), (18, true), (19, true), (20, true), (21, false), (22, true), (23, true), (24, true), (26, true), (25, false), (27, false), (28, true), (29, true), (30, true)] (by kernel_rfl) (by kernel_rfl) (by kernel_rfl) (by kernel_rfl) ⟨K.get 7 rfl, K.get 5 rfl, K.get 4 rfl, K.get 3 rfl, K.get 2 rfl, K.get 1 rfl, K.get 0 rfl⟩ ?_
  simp only [List.map_cons, List.map_nil, List.getElem?_toArray, List.getElem?_cons_zero, List.getElem?_cons_succ]
  generalize w5.drew = w6 at *
  repeat (first | (refine Plan.take ?_ (by rfl) ?_ ?_; rotate_left; (· rintro w9 ⟨s0, s1, s2, s3, s4, s5, s6⟩; go_simp; (try rw [if_neg (by omega)]); all_goals (with_reducible rfl)); simp only [Act.put, List.setIfInBounds_toArray, List.set_cons_zero, List.set_cons_succ]) | (refine Plan.pass (by rfl) ?_; simp only [Act.put, List.setIfInBounds_toArray, List.set_cons_zero, List.set_cons_succ]))
  refine Plan.take_load 28 (.tmp 10) (G3 + 1) _ (by rfl) rfl (by rfl) (fun w9 h9 => h9.2.2.2.2.1) Try.underlying28 rfl rq_info ?_
  simp only [Act.put, List.setIfInBounds_toArray, List.set_cons_zero, List.set_cons_succ]
  refine Plan.take_load 28 (.tmp 13) (G4 + 1) _ (by rfl) rfl (by rfl) (fun w9 h9 => h9.2.2.2.2.2.2) Try.underlying28 rfl rq_info ?_
  simp only [Act.put, List.setIfInBounds_toArray, List.set_cons_zero, List.set_cons_succ]
  repeat (first | (refine Plan.take ?_ (by rfl) ?_ ?_; rotate_left; (· rintro w9 ⟨s0, s1, s2, s3, s4, s5, s6⟩; go_simp; (try rw [if_neg (by omega)]); all_goals (with_reducible rfl)); simp only [Act.put, List.setIfInBounds_toArray, List.set_cons_zero, List.set_cons_succ]) | (refine Plan.pass (by rfl) ?_; simp only [Act.put, List.setIfInBounds_toArray, List.set_cons_zero, List.set_cons_succ]))
  refine Plan.take_load 24 (.tmp 5) (G1) _ (by rfl) rfl (by rfl) (fun w9 h9 => h9.2.1) Try.underlying24 rfl rg_info ?_
  simp only [Act.put, List.setIfInBounds_toArray, List.set_cons_zero, List.set_cons_succ]
  refine Plan.take_load 24 (.tmp 7) (G2) _ (by rfl) rfl (by rfl) (fun w9 h9 => h9.2.2.1) Try.underlying24 rfl rg_info ?_
  simp only [Act.put, List.setIfInBounds_toArray, List.set_cons_zero, List.set_cons_succ]
  refine Plan.call (by rfl) 9 _ ?_ (HS.out _ _ _ _ _ _ _ _ _ _ l1 l2) ?_
  · go_simp
  rintro r9 w7 ⟨rfl, hb⟩
  replace l0 := l0.keep (K.keep_on hb)
  replace l1 := l1.keep (K.keep_on hb)
  replace l2 := l2.keep (K.keep_on hb)
  replace l3 := l3.keep (K.keep_on hb)
  replace l4 := l4.keep (K.keep_on hb)
  replace K := K.on hb
  clear hb
  refine ⟨_, rfl, ⟨K.get 7 rfl, K.get 5 rfl, K.get 4 rfl, K.get 3 rfl, K.get 2 rfl, K.get 1 rfl, K.get 0 rfl⟩, ?_⟩
  simp only [Act.put, List.setIfInBounds_toArray, List.set_cons_zero, List.set_cons_succ]
  repeat (first | (refine Plan.take ?_ (by rfl) ?_ ?_; rotate_left; (· rintro w9 ⟨s0, s1, s2, s3, s4, s5, s6⟩; go_simp; (try rw [if_neg (by omega)]); all_goals (with_reducible rfl)); simp only [Act.put, List.setIfInBounds_toArray, List.set_cons_zero, List.set_cons_succ]) | (refine Plan.pass (by rfl) ?_; simp only [Act.put, List.setIfInBounds_toArray, List.set_cons_zero, List.set_cons_succ]))
  refine Plan.take_load 24 (.tmp 9) (G3) _ (by rfl) rfl (by rfl) (fun w9 h9 => h9.2.2.2.1) Try.underlying24 rfl rg_info ?_
  simp only [Act.put, List.setIfInBounds_toArray, List.set_cons_zero, List.set_cons_succ]
  refine Plan.take_load 24 (.tmp 12) (G4) _ (by rfl) rfl (by rfl) (fun w9 h9 => h9.2.2.2.2.2.1) Try.underlying24 rfl rg_info ?_
  simp only [Act.put, List.setIfInBounds_toArray, List.set_cons_zero, List.set_cons_succ]
  refine Plan.call (by rfl) 9 _ ?_ (HS.out _ _ _ _ _ _ _ _ _ _ l3 l4) ?_
  · go_simp
  rintro r9 w7 ⟨rfl, hb⟩
  replace l0 := l0.keep (K.keep_on hb)
  replace l1 := l1.keep (K.keep_on hb)
  replace l2 := l2.keep (K.keep_on hb)
  replace l3 := l3.keep (K.keep_on hb)
  replace l4 := l4.keep (K.keep_on hb)
  replace K := K.on hb
  clear hb
  refine ⟨_, rfl, ⟨K.get 7 rfl, K.get 5 rfl, K.get 4 rfl, K.get 3 rfl, K.get 2 rfl, K.get 1 rfl, K.get 0 rfl⟩, ?_⟩
  simp only [Act.put, List.setIfInBounds_toArray, List.set_cons_zero, List.set_cons_succ]
  repeat (first | (refine Plan.take ?_ (by rfl) ?_ ?_; rotate_left; (· rintro w9 ⟨s0, s1, s2, s3, s4, s5, s6⟩; go_simp; (try rw [if_neg (by omega)]); all_goals (with_reducible rfl)); simp only [Act.put, List.setIfInBounds_toArray, List.set_cons_zero, List.set_cons_succ]) | (refine Plan.pass (by rfl) ?_; simp only [Act.put, List.setIfInBounds_toArray, List.set_cons_zero, List.set_cons_succ]))
  refine Plan.take_load 24 (.tmp 2) (w.heap.size) _ (by rfl) rfl (by rfl) (fun w9 h9 => h9.1) Try.underlying24 rfl rg_info ?_
  simp only [Act.put, List.setIfInBounds_toArray, List.set_cons_zero, List.set_cons_succ]
  refine Plan.take_load 24 (.tmp 2) (w.heap.size) _ (by rfl) rfl (by rfl) (fun w9 h9 => h9.1) Try.underlying24 rfl rg_info ?_
  simp only [Act.put, List.setIfInBounds_toArray, List.set_cons_zero, List.set_cons_succ]
  refine Plan.call (by rfl) 15 _ ?_ (H5.out _ _ _ _ _ l0) ?_
  · go_simp
  rintro r9 w7 ⟨rfl, hb⟩
  replace l0 := l0.keep (K.keep_on hb)
  replace l1 := l1.keep (K.keep_on hb)
  replace l2 := l2.keep (K.keep_on hb)
  replace l3 := l3.keep (K.keep_on hb)
  replace l4 := l4.keep (K.keep_on hb)
  replace K := K.on hb
  clear hb
  refine ⟨_, rfl, ⟨K.get 7 rfl, K.get 5 rfl, K.get 4 rfl, K.get 3 rfl, K.get 2 rfl, K.get 1 rfl, K.get 0 rfl⟩, ?_⟩
  simp only [Act.put, List.setIfInBounds_toArray, List.set_cons_zero, List.set_cons_succ]
  refine Plan.call (by rfl) 16 _ ?_ (H6.out _ _ _ _ _ l0) ?_
  · go_simp
  rintro r9 w7 ⟨rfl, hb⟩
  replace l0 := l0.keep (K.keep_on hb)
  replace l1 := l1.keep (K.keep_on hb)
  replace l2 := l2.keep (K.keep_on hb)
  replace l3 := l3.keep (K.keep_on hb)
  replace l4 := l4.keep (K.keep_on hb)
  replace K := K.on hb
  clear hb
  refine ⟨_, rfl, ⟨K.get 7 rfl, K.get 5 rfl, K.get 4 rfl, K.get 3 rfl, K.get 2 rfl, K.get 1 rfl, K.get 0 rfl⟩, ?_⟩
  simp only [Act.put, List.setIfInBounds_toArray, List.set_cons_zero, List.set_cons_succ]
  repeat (first | (refine Plan.take ?_ (by rfl) ?_ ?_; rotate_left; (· rintro w9 ⟨s0, s1, s2, s3, s4, s5, s6⟩; go_simp; (try rw [if_neg (by omega)]); all_goals (with_reducible rfl)); simp only [Act.put, List.setIfInBounds_toArray, List.set_cons_zero, List.set_cons_succ]) | (refine Plan.pass (by rfl) ?_; simp only [Act.put, List.setIfInBounds_toArray, List.set_cons_zero, List.set_cons_succ]))
  refine Plan.ends ?_
  go_wp2_with fail
  go_ret
  exact ⟨rfl, K.hb⟩
end Go.Proofs.Ytljdepnhhngbeaa.Ents
