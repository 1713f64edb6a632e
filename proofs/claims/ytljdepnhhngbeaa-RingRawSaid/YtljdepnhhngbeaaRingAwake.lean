
/- The walk of the law's sanity check of rings. -/
import Derived.Test.YtljdepnhhngbeaaRingAgree
namespace Go.Proofs.Ytljdepnhhngbeaa.Ents
open Go.RowKit Plan RingMath Rws Env
theorem aw_new : newD 1 = 1 ∧ newE 1 = 0 := by decide
theorem aw_sub1 : submitE 1 [] 4 = 0 ∧ submitG 1 [] ⟨4, 0, 0, ⟨#[]⟩⟩ = [⟨4, 0, 0, ⟨#[]⟩⟩] := ⟨by decide, sub_go (by decide)⟩
theorem aw_sub2 : submitE 1 [⟨4, 0, 0, ⟨#[]⟩⟩] 5 = 13 := by decide
theorem aw_take : takeB 1 [⟨4, 0, 0, ⟨#[]⟩⟩] = true ∧ takeX 1 [⟨4, 0, 0, ⟨#[]⟩⟩] = ⟨4, 0, 0, ⟨#[]⟩⟩ := ⟨by decide, (take_yes (by decide) rfl).2⟩
set_option maxHeartbeats 8000000 in
set_option maxRecDepth 20000 in
theorem ringAwake_any (H : RingOk) (w : World) : Calls Try.prog 5 #[] w fun r w' => r = .returned (.bool true) ∧ Below w.heap.size w w' := by
  have H1 := Lib.hid (fun W F => H.new F 1 W)
  have H2 := Lib.hid (fun W F a n c (h : GList W F a n c []) => H.submit F [] 1 a n c 4 0 0 ⟨#[]⟩ W h)
  have H3 := Lib.hid (fun W F a n c (h : GList W F a n c [⟨4, 0, 0, ⟨#[]⟩⟩]) => H.submit F [⟨4, 0, 0, ⟨#[]⟩⟩] 1 a n c 5 0 0 ⟨#[]⟩ W h)
  have H4 := Lib.hid (fun W F a n c (h : GList W F a n c [⟨4, 0, 0, ⟨#[]⟩⟩]) => H.take F [⟨4, 0, 0, ⟨#[]⟩⟩] 1 a n c W h)
  rw [aw_new.1, aw_new.2] at H1
  rw [aw_sub1.1, aw_sub1.2] at H2
  rw [aw_sub2] at H3
  rw [aw_take.1, aw_take.2] at H4
  unfold GPost at H1 H2 H3
  unfold TPost at H4
  generalize submitG 1 _ _ = L3 at *
  generalize takeG 1 _ = L4 at *
  have K := Env.start w
  go_enter Try.func5, Try.ntmps5
  go_wp2_with (first
    | (go_at_call 6; ((with_reducible refine (H1.out _ (Quiet w (fun _ => False) w [])).mono ?_); rintro r9 w1 ⟨a1, n1, c1, rfl, hx, hb⟩; have l0 := TList.result K hb hx; clear hx; replace K := K.on hb; clear hb; replace l0 := l0.keep (K.keep_al (F := fun _ => False) (rgRow 1 a1 n1 c1)); replace K := K.al (rgRow 1 a1 n1 c1)))
    | ((with_reducible refine Plan.load_lit 24 (.tmp 1) (w1.heap.size) ?_ (K.get 0 rfl) Try.underlying24 ?_ ?_ ?_); (· rfl); (· rfl); (· exact rg_info); simp only [Act.put, List.setIfInBounds_toArray, List.set_cons_zero, List.set_cons_succ])
    | ((with_reducible refine Plan.load_lit 24 (.tmp 1) (w1.heap.size) ?_ (K.get 1 rfl) Try.underlying24 ?_ ?_ ?_); (· rfl); (· rfl); (· exact rg_info); simp only [Act.put, List.setIfInBounds_toArray, List.set_cons_zero, List.set_cons_succ])
    | (go_at_call 11; ((with_reducible refine (H2.out _ _ _ _ _ l0).mono ?_); rintro r9 w2 ⟨a2, n2, c2, rfl, hx, hb⟩; have l2 := TList.result K hb hx; clear hx l0; replace K := K.on hb; clear hb))
    | ((with_reducible refine Plan.store_lit 24 (.tmp 1) _ w1.heap.size #[.int .i64 1, .slice a2 n2 c2] (K.get 0 rfl) ?_ ?_ ?_ ?_ ?_ ?_); rotate_left; (· rfl); (· exact rg_info); (· rfl); (· simp [Value.oneCell']); rotate_left; (· rfl); simp only [Act.put]; have k9 := K.keep_put (F := fun _ => False) 0 rfl (cs' := #[.int .i64 1, .slice a2 n2 c2]) rfl; replace l2 := l2.keep k9; replace K := K.put 0 rfl (cs' := #[.int .i64 1, .slice a2 n2 c2]) rfl; clear k9; simp only [List.set] at K l2; generalize World.setRow w2 _ _ = w3 at *)
    | (go_at_call 11; ((with_reducible refine (H3.out _ _ _ _ _ l2).mono ?_); rintro r9 w4 ⟨a4, n4, c4, rfl, hx, hb⟩; replace l2 := l2.keep (K.keep_on hb); clear hx; replace K := K.on hb; clear hb; replace l2 := l2.keep (K.keep_al (F := fun _ => False) (rgRow 1 a4 n4 c4)); replace K := K.al (rgRow 1 a4 n4 c4)))
    | (go_at_call 10; ((with_reducible refine (H4.out _ _ _ _ _ l2).mono ?_); rintro r9 w5 ⟨a5, n5, c5, rfl, hx, hb⟩; clear hx l2; replace K := K.on hb; clear hb; replace K := (K.al (rgRow 1 a5 n5 c5)).al (.cells #[.int .i64 4, .int .i64 0, .int .i64 0, .string ⟨#[]⟩] 28); have hY := cell_of_row _ _ 0 _ _ _ (K.get 0 rfl))))
  go_ret
  exact ⟨rfl, K.hb⟩
end Go.Proofs.Ytljdepnhhngbeaa.Ents
