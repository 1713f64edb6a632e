
/- The walk of RingRaw. -/
import Derived.Test.YtljdepnhhngbeaaRingAwake
namespace Go.Proofs.Ytljdepnhhngbeaa.Ents
open Go.RowKit Plan RingMath Rws Env
set_option maxHeartbeats 8000000 in
set_option maxRecDepth 20000 in
theorem ringRaw_any (H : RingOk) (F : Nat → Prop) (L : List Rq) (d dep : Int) (a : Option Addr) (n c : Nat) (xs xk xb : Int) (xd : ByteArray) (w : World) (hl : GList w F a n c L) :
    Calls Try.prog 3 #[rgV d a n c, .agg #[.int .i64 xs, .int .i64 xk, .int .i64 xb, .string xd], .int .i64 dep] w fun r w' => r = .returned (.bool true) ∧ Below w.heap.size w w' := by
  have HW := Lib.hid (fun W => ringAwake_any H W)
  have HA := Lib.hid (fun W F a n c (h : GList W F a n c L) => ringAgree_any H F L d a n c xs xk xb xd W h)
  have H1 := Lib.hid (fun W F => H.new F dep W)
  have H2 := Lib.hid (fun W F => refGNew_any F dep W)
  have HS := Lib.hid (fun W F G L a b n c m k (h1 : GList W F a n c L) (h2 : GList W G b m k L) => refGSame_any F G L (newD dep) a b n c m k W h1 h2)
  unfold GPost at H1 H2
  generalize newD dep = D0 at *
  generalize newE dep = E0 at *
  have l0 := ((hl.rest0).keep ((Env.start w).keep_al (rgRow d a n c))).keep (((Env.start w).al (rgRow d a n c)).keep_al (.cells #[.int .i64 xs, .int .i64 xk, .int .i64 xb, .string xd] 28))
  have K := ((Env.start w).al (rgRow d a n c)).al (.cells #[.int .i64 xs, .int .i64 xk, .int .i64 xb, .string xd] 28)
  simp only [World.size_alloc] at K l0
  have c0 := (rg_cells (K.get 1 rfl)).2
  clear hl
  by_cases hm : n ≤ 100
  · have d1 : ¬ (100 : Int) < (n : Int) := by omega
    have d2 : decide ((100 : Int) < (n : Int)) = false := decide_eq_false d1
    go_enter Try.func3, Try.ntmps3
    generalize hw0 : (w.alloc (rgRow d a n c)).alloc (.cells #[.int .i64 xs, .int .i64 xk, .int .i64 xb, .string xd] 28) = w0 at *
    go_wp2_with (first
      | (go_at_call 6; ((with_reducible refine (H1.out _ (K.quiet F)).mono ?_); rintro r9 w1 ⟨a1, n1, c1, rfl, hx, hb⟩; have l1 := TList.result K hb hx; clear hx; replace l0 := l0.keep (K.keep_on hb); replace K := K.on hb; clear hb; have k9 := K.keep_al (F := F) (rgRow D0 a1 n1 c1); replace l0 := l0.keep k9; replace l1 := l1.keep k9; replace K := K.al (rgRow D0 a1 n1 c1); clear k9))
      | (go_at_call 7; ((with_reducible refine (H2.out _ (K.quiet F)).mono ?_); rintro r9 w2 ⟨a2, n2, c2, rfl, hx, hb⟩; have l2 := TList.result K hb hx; clear hx; replace l0 := l0.keep (K.keep_on hb); replace l1 := l1.keep (K.keep_on hb); replace K := K.on hb; clear hb; have k9 := K.keep_al (F := F) (rgRow D0 a2 n2 c2); replace l0 := l0.keep k9; replace l1 := l1.keep k9; replace l2 := l2.keep k9; replace K := K.al (rgRow D0 a2 n2 c2); clear k9))
      | ((with_reducible refine Plan.load_lit 24 (.tmp 3) (w.heap.size) ?_ (K.get 3 rfl) Try.underlying24 ?_ ?_ ?_); (· rfl); (· rfl); (· exact rg_info); simp only [Act.put, List.setIfInBounds_toArray, List.set_cons_zero, List.set_cons_succ])
      | ((with_reducible refine Plan.load_lit 28 (.tmp 4) (w.heap.size + 1) ?_ (K.get 2 rfl) Try.underlying28 ?_ ?_ ?_); (· rfl); (· rfl); (· exact rq_info); simp only [Act.put, List.setIfInBounds_toArray, List.set_cons_zero, List.set_cons_succ])
      | ((with_reducible refine load_lit_gc 24 (.tmp 7) (w1.heap.size) ?_ ?_ (K.get 1 rfl) Try.underlying24 ?_ ?_ ?_); (· rfl); (· rfl); (· rfl); (· exact rg_info); simp only [Act.put, List.setIfInBounds_toArray, List.set_cons_zero, List.set_cons_succ])
      | ((with_reducible refine load_lit_gc 24 (.tmp 9) (w2.heap.size) ?_ ?_ (K.get 0 rfl) Try.underlying24 ?_ ?_ ?_); (· rfl); (· rfl); (· rfl); (· exact rg_info); simp only [Act.put, List.setIfInBounds_toArray, List.set_cons_zero, List.set_cons_succ])
      | (go_at_call 8; ((with_reducible refine (HA.out _ _ _ _ _ l0).mono ?_); rintro r9 w3 ⟨rfl, hb⟩; replace l1 := l1.keep (K.keep_on hb); replace l2 := l2.keep (K.keep_on hb); replace K := K.on hb; clear hb l0))
      | (go_at_call 9; ((with_reducible refine (HS.out _ _ _ _ _ _ _ _ _ _ l1 l2).mono ?_); rintro r9 w4 ⟨rfl, hb⟩; replace K := K.on hb; clear hb l1 l2))
      | (go_at_call 5; ((with_reducible refine (HW.out _).mono ?_); rintro r9 w5 ⟨rfl, hb⟩; replace K := K.on hb; clear hb)))
    go_ret
    exact ⟨rfl, K.hb⟩
  · have d1 : (100 : Int) < (n : Int) := by omega
    have d2 : decide ((100 : Int) < (n : Int)) = true := decide_eq_true d1
    go_enter Try.func3, Try.ntmps3
    generalize hw0 : (w.alloc (rgRow d a n c)).alloc (.cells #[.int .i64 xs, .int .i64 xk, .int .i64 xb, .string xd] 28) = w0 at *
    go_wp2_with (first
      | (go_at_call 5; ((with_reducible refine (HW.out _).mono ?_); rintro r9 w5 ⟨rfl, hb⟩; replace K := K.on hb; clear hb)))
    go_ret
    exact ⟨rfl, K.hb⟩
end Go.Proofs.Ytljdepnhhngbeaa.Ents
