
/- The walk of the program's Take of rings; the program's rings do what the contracts of the document's own say. -/
import Derived.Test.YtljdepnhhngbeaaRingPSub
import Derived.Test.YtljdepnhhngbeaaRingAgree
namespace Go.Proofs.Ytljdepnhhngbeaa.Ents
open Go.RowKit Plan RingMath Rws Env
set_option maxHeartbeats 8000000 in
set_option maxRecDepth 20000 in
theorem ringTake_any (F : Nat → Prop) (L : List Rq) (d : Int) (a : Option Addr) (n c : Nat) (w : World) (hl : GList w F a n c L) :
    Calls Try.prog 10 #[rgV d a n c] w (TPost w F d (takeG d L) (takeX d L) (takeB d L)) := by
  have hlen := hl.length
  have hmx : n ≤ maxLen := Nat.le_trans hl.cap.1 hl.cap.2
  unfold maxLen at hmx
  have HV := Lib.hid (fun W (h : Below w.heap.size w W) => ringValid_any _ L d a n c W (hl.same h))
  have HEND := Lib.hid (fun W (h : Below w.heap.size w W) => (show GList W (fun b => F b ∨ w.heap.size ≤ b) a n c L from (hl.cut.on (Same.below h)).mono (fun b _ h => .inl h.1)))
  have K := (((Env.start w).al (rgRow d a n c)).al (rgRow 0 none 0 0)).al (.cells #[.int .i64 0, .int .i64 0, .int .i64 0, .string ⟨#[]⟩] 28)
  simp only [World.size_alloc] at K
  unfold TPost
  cases hva : validG d L
  · have hb : takeB d L = false := by unfold takeB; rw [hva]; rfl
    obtain ⟨e1, e2⟩ := take_no hb
    rw [hb, e1, e2]
    rw [hva] at HV
    clear hl e1 e2 hb hva hlen
    go_enter Try.func10, Try.ntmps10
    generalize hw0 : ((w.alloc (rgRow d a n c)).alloc (rgRow 0 none 0 0)).alloc (.cells #[.int .i64 0, .int .i64 0, .int .i64 0, .string ⟨#[]⟩] 28) = w0 at *
    go_wp2_with (first
      | ((with_reducible refine Plan.load_lit 24 (.tmp 1) (w.heap.size) ?_ (K.get 2 rfl) Try.underlying24 ?_ ?_ ?_); (· rfl); (· rfl); (· exact rg_info); simp only [Act.put, List.setIfInBounds_toArray, List.set_cons_zero, List.set_cons_succ])
      | (go_at_call 15; ((with_reducible refine (HV.out _ K.hb).mono ?_); rintro r9 w1 ⟨rfl, h1⟩; have K1 := K.on h1; clear K h1 hw0; have K := K1; clear K1; obtain ⟨c0, c1⟩ := rg_cells (K.get 2 rfl)))
      | ((with_reducible refine Plan.store_lit 24 (.tmp 2) _ (w.heap.size + 1) #[.int .i64 d, .slice a n c] (K.get 1 rfl) ?_ ?_ ?_ ?_ ?_ ?_); rotate_left; (· rfl); (· exact rg_info); (· rfl); (· simp [Value.oneCell']); rotate_left; (· rfl); simp only [Act.put]; have K9 := K.put 1 rfl (cs' := #[.int .i64 d, .slice a n c]) rfl; simp only [List.set] at K9; clear K; have K := K9; clear K9; generalize World.setRow w1 _ _ = w2 at *)
      | ((with_reducible refine Plan.store_lit 28 (.tmp 3) _ (w.heap.size + 1 + 1) #[.int .i64 0, .int .i64 0, .int .i64 0, .string ⟨#[]⟩] (K.get 0 rfl) ?_ ?_ ?_ ?_ ?_ ?_); rotate_left; (· rfl); (· exact rq_info); (· rfl); (· simp [Value.oneCell']); rotate_left; (· rfl); simp only [Act.put]; have K8 := K.put 0 rfl (cs' := #[.int .i64 0, .int .i64 0, .int .i64 0, .string ⟨#[]⟩]) rfl; simp only [List.set] at K8))
    exact bodyPost_ret (Plan.results_cells_tmp (p := 2) (p2 := 3) (q := 4) rfl _ _ _ _ _ _ _ _ _ _ _ _ rfl (K8.get 1 rfl) rfl (K8.get 0 rfl) Try.underlying24 rfl rg_info Try.underlying28 rfl rq_info) rfl ⟨_, _, _, rfl, HEND.out _ K8.hb, K8.hb⟩
  have hvl := valid_len hva
  rw [hva] at HV
  by_cases hn : n = 0
  · have hb : takeB d L = false := by unfold takeB; rw [hlen, hn]; simp
    obtain ⟨e1, e2⟩ := take_no hb
    rw [hb, e1, e2]
    have t1 : ((n : Int) == 0) = true := by simp; omega
    have t2 : (n == 0) = true := by simp; omega
    clear hl e1 e2 hb hva hlen hn
    go_enter Try.func10, Try.ntmps10
    generalize hw0 : ((w.alloc (rgRow d a n c)).alloc (rgRow 0 none 0 0)).alloc (.cells #[.int .i64 0, .int .i64 0, .int .i64 0, .string ⟨#[]⟩] 28) = w0 at *
    go_wp2_with (first
      | ((with_reducible refine Plan.load_lit 24 (.tmp 1) (w.heap.size) ?_ (K.get 2 rfl) Try.underlying24 ?_ ?_ ?_); (· rfl); (· rfl); (· exact rg_info); simp only [Act.put, List.setIfInBounds_toArray, List.set_cons_zero, List.set_cons_succ])
      | (go_at_call 15; ((with_reducible refine (HV.out _ K.hb).mono ?_); rintro r9 w1 ⟨rfl, h1⟩; have K1 := K.on h1; clear K h1 hw0; have K := K1; clear K1; obtain ⟨c0, c1⟩ := rg_cells (K.get 2 rfl)))
      | ((with_reducible refine Plan.store_lit 24 (.tmp 2) _ (w.heap.size + 1) #[.int .i64 d, .slice a n c] (K.get 1 rfl) ?_ ?_ ?_ ?_ ?_ ?_); rotate_left; (· rfl); (· exact rg_info); (· rfl); (· simp [Value.oneCell']); rotate_left; (· rfl); simp only [Act.put]; have K9 := K.put 1 rfl (cs' := #[.int .i64 d, .slice a n c]) rfl; simp only [List.set] at K9; clear K; have K := K9; clear K9; generalize World.setRow w1 _ _ = w2 at *)
      | ((with_reducible refine Plan.store_lit 28 (.tmp 3) _ (w.heap.size + 1 + 1) #[.int .i64 0, .int .i64 0, .int .i64 0, .string ⟨#[]⟩] (K.get 0 rfl) ?_ ?_ ?_ ?_ ?_ ?_); rotate_left; (· rfl); (· exact rq_info); (· rfl); (· simp [Value.oneCell']); rotate_left; (· rfl); simp only [Act.put]; have K8 := K.put 0 rfl (cs' := #[.int .i64 0, .int .i64 0, .int .i64 0, .string ⟨#[]⟩]) rfl; simp only [List.set] at K8))
    exact bodyPost_ret (Plan.results_cells_tmp (p := 2) (p2 := 3) (q := 4) rfl _ _ _ _ _ _ _ _ _ _ _ _ rfl (K8.get 1 rfl) rfl (K8.get 0 rfl) Try.underlying24 rfl rg_info Try.underlying28 rfl rq_info) rfl ⟨_, _, _, rfl, HEND.out _ K8.hb, K8.hb⟩
  obtain ⟨xa, y, ha, hy, _⟩ := rq_at hl 0 (by omega)
  subst ha
  have hb : takeB d L = true := by unfold takeB; rw [hva, hlen, decide_eq_true (by omega)]; rfl
  obtain ⟨e1, e2⟩ := take_yes hb hy
  rw [hb, e1, e2]
  have t1 : ((n : Int) == 0) = false := by simp; omega
  have t2 : (n == 0) = false := by simp; omega
  have HA := Lib.hid (fun W (h : Below w.heap.size w W) => rq_first (hl.same h) hy (by omega))
  have HT := Lib.hid (fun W (h : Below w.heap.size w W) => tail_list rqOk (hl.same h) (by omega))
  have hnI : (0 : Int) < (n : Int) := by omega
  have hn1 : 1 ≤ n := by omega
  have hnN : 0 < n := by omega
  have hn8 : n ≤ 8 := by omega
  have hcp := hl.cap
  unfold maxLen at hcp
  obtain ⟨ys, yk, yb, yd⟩ := y
  simp only at HA
  clear hl e1 e2 hb hva hlen hn HEND hy
  rw [show RQ.sz = 4 from rfl] at HT
  by_cases hc1 : c = 1
  · subst hc1
    obtain rfl : n = 1 := by omega
    simp only [if_true, Nat.sub_self] at HT
    go_enter Try.func10, Try.ntmps10
    generalize hw0 : ((w.alloc (rgRow d (some xa) 1 1)).alloc (rgRow 0 none 0 0)).alloc (.cells #[.int .i64 0, .int .i64 0, .int .i64 0, .string ⟨#[]⟩] 28) = w0 at *
    go_upto_region 5 with (first
      | ((with_reducible refine Plan.load_lit 24 (.tmp 1) (w.heap.size) ?_ (K.get 2 rfl) Try.underlying24 ?_ ?_ ?_); (· rfl); (· rfl); (· exact rg_info); simp only [Act.put, List.setIfInBounds_toArray, List.set_cons_zero, List.set_cons_succ])
      | (go_at_call 15; ((with_reducible refine (HV.out _ K.hb).mono ?_); rintro r9 w1 ⟨rfl, h1⟩; have K1 := K.on h1; clear K h1 hw0; have K := K1; clear K1; obtain ⟨c0, c1⟩ := rg_cells (K.get 2 rfl); have KZ := K.al (rgRow d (some xa) 1 1); obtain ⟨z0, z1⟩ := rg_cells (KZ.get 3 rfl)))
      | (go_at_call 17; have KA := KZ; clear KZ z0 z1; ((with_reducible refine (ringClone_any _ _ _ _ _ _ (HT.out _ KA.hb) (by omega)).mono ?_); rintro r9 w3 ⟨a3, n3, c3, rfl, hl3, h3⟩; have K3 := KA.on h3; have l3 := TList.result (F := F) KA h3 (hl3.mono (fun b _ hb => .inr hb)); clear K KA hl3 h3; have K := K3; clear K3; obtain ⟨c0, c1⟩ := rg_cells (K.get 0 rfl); have hfz := free_row_c (o := 1) (K.get 0 rfl))))
    rw [setCell_eq_setRow _ _ _ _ _ _ _ (K.get 0 rfl)]
    simp only [List.setIfInBounds_toArray, List.set_cons_zero, List.set_cons_succ]
    have k9 := K.keep_put (F := F) 0 rfl (cs' := #[.int .i64 d, .slice a3 n3 c3]) rfl
    have K9 := K.put 0 rfl (cs' := #[.int .i64 d, .slice a3 n3 c3]) rfl
    simp only [List.set] at K9 k9
    replace l3 := l3.keep k9
    clear K c0 c1 hfz k9
    have K := K9
    clear K9
    generalize World.setRow w3 _ _ = w4 at *
    generalize w1.heap.size = G5 at *
    refine Plan.start (fun W => (W.heap[G5]? = some (rgRow d a3 n3 c3) ∧ W.cell? ⟨w.heap.size, 1, none⟩ = some (.slice (some xa) 1 1)) ∧ W.cell? xa = some (.int .i64 ys) ∧ W.cell? ⟨xa.block, xa.off + 1, none⟩ = some (.int .i64 yk) ∧ W.cell? ⟨xa.block, xa.off + 2, none⟩ = some (.int .i64 yb) ∧ W.cell? ⟨xa.block, xa.off + 3, none⟩ = some (.string yd)) [(0, true), (1, true), (2, true), (3, true), (4, true), (5, false), (6, false), (7, true)] (by kernel_rfl) (by kernel_rfl) (by kernel_rfl) (by kernel_rfl) ⟨⟨K.drew.get 0 rfl, (rg_cells (K.drew.get 3 rfl)).2⟩, HA.out _ K.drew.hb⟩ ?_
    simp only [List.map_cons, List.map_nil, List.getElem?_toArray, List.getElem?_cons_zero, List.getElem?_cons_succ]
    replace l3 := l3.keep K.keep_drew
    have K9 := K.drew
    clear K
    have K := K9
    clear K9
    generalize World.drew _ = w5 at *
    refine Plan.take_load 24 (.tmp 5) G5 _ (by rfl) rfl (by rfl) (fun w9 h9 => h9.1.1) Try.underlying24 rfl rg_info ?_
    simp only [Act.put, List.setIfInBounds_toArray, List.set_cons_zero, List.set_cons_succ]
    repeat (first | (refine Plan.take ?_ (by rfl) ?_ ?_; rotate_left; (· rintro w9 ⟨⟨s0, s1⟩, u0, u1, u2, u3⟩; go_simp; (try rw [if_neg (by omega)]); all_goals (with_reducible rfl)); simp only [Act.put, List.setIfInBounds_toArray, List.set_cons_zero, List.set_cons_succ]) | (refine Plan.pass (by rfl) ?_; simp only [Act.put, List.setIfInBounds_toArray, List.set_cons_zero, List.set_cons_succ]))
    have k9 := K.keep_put (F := F) 2 rfl (cs' := #[.int .i64 d, .slice a3 n3 c3]) rfl
    have K9 := K.put 2 rfl (cs' := #[.int .i64 d, .slice a3 n3 c3]) rfl
    simp only [List.set] at K9 k9
    refine Plan.carry (by rfl) (wp_store_row 24 (.tmp 2) (.tmp 23) rfl (w.heap.size + 1) #[.int .i64 d, .slice a3 n3 c3] rfl rfl _ _ (K.get 2 rfl) rg_info rfl (by simp [Value.oneCell']) ⟨⟨⟨K9.get 0 rfl, (rg_cells (K9.get 3 rfl)).2⟩, HA.out _ K9.hb⟩, ?_⟩)
    simp only [Act.put]
    replace l3 := l3.keep k9
    clear K k9
    have K := K9
    clear K9
    generalize World.setRow w5 _ _ = w6 at *
    have k8 := K.keep_put (F := F) 1 rfl (cs' := #[.int .i64 ys, .int .i64 yk, .int .i64 yb, .string yd]) rfl
    have K8 := K.put 1 rfl (cs' := #[.int .i64 ys, .int .i64 yk, .int .i64 yb, .string yd]) rfl
    simp only [List.set] at K8 k8
    refine Plan.carry (by rfl) (wp_store_row 28 (.tmp 3) (.tmp 27) rfl (w.heap.size + 1 + 1) #[.int .i64 ys, .int .i64 yk, .int .i64 yb, .string yd] rfl rfl _ _ (K.get 1 rfl) rq_info rfl (by simp [Value.oneCell']) ⟨⟨⟨K8.get 0 rfl, (rg_cells (K8.get 3 rfl)).2⟩, HA.out _ K8.hb⟩, ?_⟩)
    simp only [Act.put]
    replace l3 := l3.keep k8
    repeat (first | (refine Plan.take ?_ (by rfl) ?_ ?_; rotate_left; (· rintro w9 ⟨⟨s0, s1⟩, u0, u1, u2, u3⟩; go_simp; (try rw [if_neg (by omega)]); all_goals (with_reducible rfl)); simp only [Act.put, List.setIfInBounds_toArray, List.set_cons_zero, List.set_cons_succ]) | (refine Plan.pass (by rfl) ?_; simp only [Act.put, List.setIfInBounds_toArray, List.set_cons_zero, List.set_cons_succ]))
    refine Plan.ends ?_
    go_wp2_with fail
    exact bodyPost_ret (Plan.results_cells_tmp (p := 2) (p2 := 3) (q := 4) rfl _ _ _ _ _ _ _ _ _ _ _ _ rfl (K8.get 2 rfl) rfl (K8.get 1 rfl) Try.underlying24 rfl rg_info Try.underlying28 rfl rq_info) rfl ⟨_, _, _, rfl, l3.leave, K8.hb⟩
  · have hx4 : xa.add 4 = ⟨xa.block, xa.off + 4, none⟩ := by unfold Addr.add; simp
    simp only [if_neg hc1, hx4] at HT
    clear hx4
    obtain ⟨hcn, hcm⟩ := hcp
    go_enter Try.func10, Try.ntmps10
    generalize hw0 : ((w.alloc (rgRow d (some xa) n c)).alloc (rgRow 0 none 0 0)).alloc (.cells #[.int .i64 0, .int .i64 0, .int .i64 0, .string ⟨#[]⟩] 28) = w0 at *
    go_upto_region 5 with (first
      | ((with_reducible refine Plan.load_lit 24 (.tmp 1) (w.heap.size) ?_ (K.get 2 rfl) Try.underlying24 ?_ ?_ ?_); (· rfl); (· rfl); (· exact rg_info); simp only [Act.put, List.setIfInBounds_toArray, List.set_cons_zero, List.set_cons_succ])
      | (go_at_call 15; ((with_reducible refine (HV.out _ K.hb).mono ?_); rintro r9 w1 ⟨rfl, h1⟩; have K1 := K.on h1; clear K h1 hw0; have K := K1; clear K1; obtain ⟨c0, c1⟩ := rg_cells (K.get 2 rfl); have KZ := K.al (rgRow d (some xa) n c); obtain ⟨z0, z1⟩ := rg_cells (KZ.get 3 rfl)))
      | (go_at_call 17; have KA := KZ; clear KZ z0 z1; ((with_reducible refine (ringClone_any _ _ _ _ _ _ (HT.out _ KA.hb) (by omega)).mono ?_); rintro r9 w3 ⟨a3, n3, c3, rfl, hl3, h3⟩; have K3 := KA.on h3; have l3 := TList.result (F := F) KA h3 (hl3.mono (fun b _ hb => .inr hb)); clear K KA hl3 h3; have K := K3; clear K3; obtain ⟨c0, c1⟩ := rg_cells (K.get 0 rfl); have hfz := free_row_c (o := 1) (K.get 0 rfl))))
    rw [setCell_eq_setRow _ _ _ _ _ _ _ (K.get 0 rfl)]
    simp only [List.setIfInBounds_toArray, List.set_cons_zero, List.set_cons_succ]
    have k9 := K.keep_put (F := F) 0 rfl (cs' := #[.int .i64 d, .slice a3 n3 c3]) rfl
    have K9 := K.put 0 rfl (cs' := #[.int .i64 d, .slice a3 n3 c3]) rfl
    simp only [List.set] at K9 k9
    replace l3 := l3.keep k9
    clear K c0 c1 hfz k9
    have K := K9
    clear K9
    generalize World.setRow w3 _ _ = w4 at *
    generalize w1.heap.size = G5 at *
    refine Plan.start (fun W => (W.heap[G5]? = some (rgRow d a3 n3 c3) ∧ W.cell? ⟨w.heap.size, 1, none⟩ = some (.slice (some xa) n c)) ∧ W.cell? xa = some (.int .i64 ys) ∧ W.cell? ⟨xa.block, xa.off + 1, none⟩ = some (.int .i64 yk) ∧ W.cell? ⟨xa.block, xa.off + 2, none⟩ = some (.int .i64 yb) ∧ W.cell? ⟨xa.block, xa.off + 3, none⟩ = some (.string yd)) [(0, true), (1, true), (2, true), (3, true), (4, true), (5, false), (6, false), (7, true)] (by kernel_rfl) (by kernel_rfl) (by kernel_rfl) (by kernel_rfl) ⟨⟨K.drew.get 0 rfl, (rg_cells (K.drew.get 3 rfl)).2⟩, HA.out _ K.drew.hb⟩ ?_
    simp only [List.map_cons, List.map_nil, List.getElem?_toArray, List.getElem?_cons_zero, List.getElem?_cons_succ]
    replace l3 := l3.keep K.keep_drew
    have K9 := K.drew
    clear K
    have K := K9
    clear K9
    generalize World.drew _ = w5 at *
    refine Plan.take_load 24 (.tmp 5) G5 _ (by rfl) rfl (by rfl) (fun w9 h9 => h9.1.1) Try.underlying24 rfl rg_info ?_
    simp only [Act.put, List.setIfInBounds_toArray, List.set_cons_zero, List.set_cons_succ]
    repeat (first | (refine Plan.take ?_ (by rfl) ?_ ?_; rotate_left; (· rintro w9 ⟨⟨s0, s1⟩, u0, u1, u2, u3⟩; go_simp; (try rw [if_neg (by omega)]); all_goals (with_reducible rfl)); simp only [Act.put, List.setIfInBounds_toArray, List.set_cons_zero, List.set_cons_succ]) | (refine Plan.pass (by rfl) ?_; simp only [Act.put, List.setIfInBounds_toArray, List.set_cons_zero, List.set_cons_succ]))
    have k9 := K.keep_put (F := F) 2 rfl (cs' := #[.int .i64 d, .slice a3 n3 c3]) rfl
    have K9 := K.put 2 rfl (cs' := #[.int .i64 d, .slice a3 n3 c3]) rfl
    simp only [List.set] at K9 k9
    refine Plan.carry (by rfl) (wp_store_row 24 (.tmp 2) (.tmp 23) rfl (w.heap.size + 1) #[.int .i64 d, .slice a3 n3 c3] rfl rfl _ _ (K.get 2 rfl) rg_info rfl (by simp [Value.oneCell']) ⟨⟨⟨K9.get 0 rfl, (rg_cells (K9.get 3 rfl)).2⟩, HA.out _ K9.hb⟩, ?_⟩)
    simp only [Act.put]
    replace l3 := l3.keep k9
    clear K k9
    have K := K9
    clear K9
    generalize World.setRow w5 _ _ = w6 at *
    have k8 := K.keep_put (F := F) 1 rfl (cs' := #[.int .i64 ys, .int .i64 yk, .int .i64 yb, .string yd]) rfl
    have K8 := K.put 1 rfl (cs' := #[.int .i64 ys, .int .i64 yk, .int .i64 yb, .string yd]) rfl
    simp only [List.set] at K8 k8
    refine Plan.carry (by rfl) (wp_store_row 28 (.tmp 3) (.tmp 27) rfl (w.heap.size + 1 + 1) #[.int .i64 ys, .int .i64 yk, .int .i64 yb, .string yd] rfl rfl _ _ (K.get 1 rfl) rq_info rfl (by simp [Value.oneCell']) ⟨⟨⟨K8.get 0 rfl, (rg_cells (K8.get 3 rfl)).2⟩, HA.out _ K8.hb⟩, ?_⟩)
    simp only [Act.put]
    replace l3 := l3.keep k8
    repeat (first | (refine Plan.take ?_ (by rfl) ?_ ?_; rotate_left; (· rintro w9 ⟨⟨s0, s1⟩, u0, u1, u2, u3⟩; go_simp; (try rw [if_neg (by omega)]); all_goals (with_reducible rfl)); simp only [Act.put, List.setIfInBounds_toArray, List.set_cons_zero, List.set_cons_succ]) | (refine Plan.pass (by rfl) ?_; simp only [Act.put, List.setIfInBounds_toArray, List.set_cons_zero, List.set_cons_succ]))
    refine Plan.ends ?_
    go_wp2_with fail
    exact bodyPost_ret (Plan.results_cells_tmp (p := 2) (p2 := 3) (q := 4) rfl _ _ _ _ _ _ _ _ _ _ _ _ rfl (K8.get 2 rfl) rfl (K8.get 1 rfl) Try.underlying24 rfl rg_info Try.underlying28 rfl rq_info) rfl ⟨_, _, _, rfl, l3.leave, K8.hb⟩
theorem ringOk : RingOk := ⟨ringNew_any, ringValid_any, ringSubmit_any, ringTake_any⟩
end Go.Proofs.Ytljdepnhhngbeaa.Ents
