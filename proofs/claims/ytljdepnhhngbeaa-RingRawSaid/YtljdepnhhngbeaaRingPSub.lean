
/- The walk of the program's Submit of rings. -/
import Derived.Test.YtljdepnhhngbeaaRingPVal
namespace Go.Proofs.Ytljdepnhhngbeaa.Ents
open Go.RowKit Plan RingMath Rws Env
set_option maxHeartbeats 8000000 in
set_option maxRecDepth 20000 in
theorem ringSubmit_any (F : Nat → Prop) (L : List Rq) (d : Int) (a : Option Addr) (n c : Nat) (xs xk xb : Int) (xd : ByteArray) (w : World) (hl : GList w F a n c L) :
    Calls Try.prog 11 #[rgV d a n c, .agg #[.int .i64 xs, .int .i64 xk, .int .i64 xb, .string xd]] w (GPost w F d (submitG d L ⟨xs, xk, xb, xd⟩) (submitE d L xs)) := by
  have hlen := hl.length
  obtain ⟨hcp, hcm⟩ := hl.cap
  have hmx : n ≤ maxLen := Nat.le_trans hcp hcm
  unfold maxLen at hmx hcm
  have HV := Lib.hid (fun W (h : Below w.heap.size w W) => ringValid_any _ L d a n c W (hl.same h))
  have HEND := Lib.hid (fun W (h : Below w.heap.size w W) => (show GList W (fun b => F b ∨ w.heap.size ≤ b) a n c L from (hl.cut.on (Same.below h)).mono (fun b _ h => .inl h.1)))
  have HLA := Lib.hid (fun W (h : Below w.heap.size w W) => ringLast_any _ L a n c W (hl.same h))
  have HL := Lib.hid (fun W (h : Below w.heap.size w W) => hl.same h)
  have K := (((Env.start w).al (rgRow d a n c)).al (.cells #[.int .i64 xs, .int .i64 xk, .int .i64 xb, .string xd] 28)).al (rgRow 0 none 0 0)
  simp only [World.size_alloc] at K
  unfold GPost
  cases hva : validG d L
  · have e1 := @sub_inv d L xs hva
    rw [sub_stay (x := ⟨xs, xk, xb, xd⟩) e1 (by decide), e1]
    rw [hva] at HV
    clear hl e1 hva HLA HL hlen
    go_enter Try.func11, Try.ntmps11
    generalize hw0 : ((w.alloc (rgRow d a n c)).alloc (.cells #[.int .i64 xs, .int .i64 xk, .int .i64 xb, .string xd] 28)).alloc (rgRow 0 none 0 0) = w0 at *
    obtain ⟨c0, c1⟩ := rg_cells (K.get 2 rfl)
    go_wp2_with (first
      | ((with_reducible refine Plan.load_lit 24 (.tmp 2) (w.heap.size) ?_ (K.get 2 rfl) Try.underlying24 ?_ ?_ ?_); (· rfl); (· rfl); (· exact rg_info); simp only [Act.put, List.setIfInBounds_toArray, List.set_cons_zero, List.set_cons_succ])
      | (go_at_call 15; ((with_reducible refine (HV.out _ K.hb).mono ?_); rintro r9 w1 ⟨rfl, h1⟩; have K1 := K.on h1; clear K h1 hw0; have K := K1; clear K1; obtain ⟨c0, c1⟩ := rg_cells (K.get 2 rfl)))
      | ((with_reducible refine Plan.store_lit 24 (.tmp 4) _ (w.heap.size + 1 + 1) ?_ (K.get 0 rfl) ?_ ?_ ?_ ?_ ?_ ?_); rotate_left; (· rfl); (· rfl); (· exact rg_info); (· rfl); (· simp [Value.oneCell']); simp only [Act.put]))
    have K9 := K.put 0 rfl (cs' := #[.int .i64 d, .slice a n c]) rfl
    exact bodyPost_ret (Plan.results_cell_tmp (p := 4) (q := 5) rfl _ _ _ _ _ _ _ rfl (K9.get 0 rfl) Try.underlying24 rfl rg_info) rfl ⟨_, _, _, rfl, HEND.out _ K9.hb, K9.hb⟩

  have hvl := valid_len hva
  rw [hva] at HV
  by_cases hd : (L.length : Int) = d
  · have e1 := @sub_full d L xs hva hd
    rw [sub_stay (x := ⟨xs, xk, xb, xd⟩) e1 (by decide), e1]
    have d1 : ((n : Int) == d) = true := by simp; omega
    have d2 : (n : Int) = d := by omega
    clear hl e1 hva HLA HL
    go_enter Try.func11, Try.ntmps11
    generalize hw0 : ((w.alloc (rgRow d a n c)).alloc (.cells #[.int .i64 xs, .int .i64 xk, .int .i64 xb, .string xd] 28)).alloc (rgRow 0 none 0 0) = w0 at *
    obtain ⟨c0, c1⟩ := rg_cells (K.get 2 rfl)
    go_wp2_with (first
      | ((with_reducible refine Plan.load_lit 24 (.tmp 2) (w.heap.size) ?_ (K.get 2 rfl) Try.underlying24 ?_ ?_ ?_); (· rfl); (· rfl); (· exact rg_info); simp only [Act.put, List.setIfInBounds_toArray, List.set_cons_zero, List.set_cons_succ])
      | (go_at_call 15; ((with_reducible refine (HV.out _ K.hb).mono ?_); rintro r9 w1 ⟨rfl, h1⟩; have K1 := K.on h1; clear K h1 hw0; have K := K1; clear K1; obtain ⟨c0, c1⟩ := rg_cells (K.get 2 rfl)))
      | ((with_reducible refine Plan.store_lit 24 (.tmp 4) _ (w.heap.size + 1 + 1) ?_ (K.get 0 rfl) ?_ ?_ ?_ ?_ ?_ ?_); rotate_left; (· rfl); (· rfl); (· exact rg_info); (· rfl); (· simp [Value.oneCell']); simp only [Act.put]))
    have K9 := K.put 0 rfl (cs' := #[.int .i64 d, .slice a n c]) rfl
    exact bodyPost_ret (Plan.results_cell_tmp (p := 4) (q := 5) rfl _ _ _ _ _ _ _ rfl (K9.get 0 rfl) Try.underlying24 rfl rg_info) rfl ⟨_, _, _, rfl, HEND.out _ K9.hb, K9.hb⟩

  have d2 : ¬ (n : Int) = d := by omega
  have d3 : ((n : Int) == d) = false := by simpa using d2
  have hsl := sub_last (s := xs) hva hd
  have hn9 : n ≤ 8 := by omega
  by_cases hq : xs ≤ lastS L
  · rw [if_pos hq] at hsl
    rw [sub_stay (x := ⟨xs, xk, xb, xd⟩) hsl (by decide), hsl]
    have q1 : decide (xs ≤ lastS L) = true := decide_eq_true hq
    generalize lastS L = z at *
    clear hl hsl hva HL hd hlen
    go_enter Try.func11, Try.ntmps11
    generalize hw0 : ((w.alloc (rgRow d a n c)).alloc (.cells #[.int .i64 xs, .int .i64 xk, .int .i64 xb, .string xd] 28)).alloc (rgRow 0 none 0 0) = w0 at *
    obtain ⟨c0, c1⟩ := rg_cells (K.get 2 rfl)
    go_upto_region 6 with (first
      | ((with_reducible refine Plan.load_lit 24 (.tmp 2) (w.heap.size) ?_ (K.get 2 rfl) Try.underlying24 ?_ ?_ ?_); (· rfl); (· rfl); (· exact rg_info); simp only [Act.put, List.setIfInBounds_toArray, List.set_cons_zero, List.set_cons_succ])
      | (go_at_call 15; ((with_reducible refine (HV.out _ K.hb).mono ?_); rintro r9 w1 ⟨rfl, h1⟩; have K1 := K.on h1; clear K h1 hw0; have K := K1; clear K1; obtain ⟨c0, c1⟩ := rg_cells (K.get 2 rfl))))
    refine Plan.start (fun W => (W.cell? ⟨w.heap.size + 1, 0, none⟩ = some (.int .i64 xs) ∧ W.cell? ⟨w.heap.size, 1, none⟩ = some (.slice a n c))) [(0, true), (1, true), (2, true), (3, true), (4, false), (5, true), (6, true)] (by kernel_rfl) (by kernel_rfl) (by kernel_rfl) (by kernel_rfl) ⟨cell_of_row _ _ 0 _ _ _ (K.drew.get 1 rfl), (rg_cells (K.drew.get 2 rfl)).2⟩ ?_
    simp only [List.map_cons, List.map_nil, List.getElem?_toArray, List.getElem?_cons_zero, List.getElem?_cons_succ]
    repeat (first | (refine Plan.take ?_ (by rfl) ?_ ?_; rotate_left; (· rintro w9 ⟨u0, u1⟩; go_simp; (try rw [if_neg (by omega)]); all_goals (with_reducible rfl)); simp only [Act.put, List.setIfInBounds_toArray, List.set_cons_zero, List.set_cons_succ]) | (refine Plan.pass (by rfl) ?_; simp only [Act.put, List.setIfInBounds_toArray, List.set_cons_zero, List.set_cons_succ]))
    refine Plan.call (by rfl) 18 _ ?_ (HLA.out _ K.drew.hb) ?_
    · go_simp
    rintro r9 w9 ⟨rfl, rfl⟩
    refine ⟨_, rfl, ⟨cell_of_row _ _ 0 _ _ _ (K.drew.get 1 rfl), (rg_cells (K.drew.get 2 rfl)).2⟩, ?_⟩
    simp only [Act.put, List.setIfInBounds_toArray, List.set_cons_zero, List.set_cons_succ]
    repeat (first | (refine Plan.take ?_ (by rfl) ?_ ?_; rotate_left; (· rintro w9 ⟨u0, u1⟩; go_simp; (try rw [if_neg (by omega)]); all_goals (with_reducible rfl)); simp only [Act.put, List.setIfInBounds_toArray, List.set_cons_zero, List.set_cons_succ]) | (refine Plan.pass (by rfl) ?_; simp only [Act.put, List.setIfInBounds_toArray, List.set_cons_zero, List.set_cons_succ]))
    refine Plan.ends ?_
    have K9 := K.drew
    clear K c0 c1
    have K := K9
    clear K9
    generalize World.drew _ = w2 at *
    obtain ⟨c0, c1⟩ := rg_cells (K.get 2 rfl)
    go_wp2_with (first
      | ((with_reducible refine Plan.load_lit 24 (.tmp 2) (w.heap.size) ?_ (K.get 2 rfl) Try.underlying24 ?_ ?_ ?_); (· rfl); (· rfl); (· exact rg_info); simp only [Act.put, List.setIfInBounds_toArray, List.set_cons_zero, List.set_cons_succ])
      | ((with_reducible refine Plan.store_lit 24 (.tmp 4) _ (w.heap.size + 1 + 1) ?_ (K.get 0 rfl) ?_ ?_ ?_ ?_ ?_ ?_); rotate_left; (· rfl); (· rfl); (· exact rg_info); (· rfl); (· simp [Value.oneCell']); simp only [Act.put]))
    have K9 := K.put 0 rfl (cs' := #[.int .i64 d, .slice a n c]) rfl
    exact bodyPost_ret (Plan.results_cell_tmp (p := 4) (q := 5) rfl _ _ _ _ _ _ _ rfl (K9.get 0 rfl) Try.underlying24 rfl rg_info) rfl ⟨_, _, _, rfl, HEND.out _ K9.hb, K9.hb⟩

  rw [if_neg hq] at hsl
  rw [sub_go (x := ⟨xs, xk, xb, xd⟩) hsl, hsl]
  have q1 : decide (xs ≤ lastS L) = false := decide_eq_false hq
  generalize lastS L = z at *
  clear hl hsl hva hd HEND
  go_enter Try.func11, Try.ntmps11
  generalize hw0 : ((w.alloc (rgRow d a n c)).alloc (.cells #[.int .i64 xs, .int .i64 xk, .int .i64 xb, .string xd] 28)).alloc (rgRow 0 none 0 0) = w0 at *
  obtain ⟨c0, c1⟩ := rg_cells (K.get 2 rfl)
  go_upto_region 6 with (first
    | ((with_reducible refine Plan.load_lit 24 (.tmp 2) (w.heap.size) ?_ (K.get 2 rfl) Try.underlying24 ?_ ?_ ?_); (· rfl); (· rfl); (· exact rg_info); simp only [Act.put, List.setIfInBounds_toArray, List.set_cons_zero, List.set_cons_succ])
    | (go_at_call 15; ((with_reducible refine (HV.out _ K.hb).mono ?_); rintro r9 w1 ⟨rfl, h1⟩; have K1 := K.on h1; clear K h1 hw0; have K := K1; clear K1; obtain ⟨c0, c1⟩ := rg_cells (K.get 2 rfl))))
  refine Plan.start (fun W => (W.cell? ⟨w.heap.size + 1, 0, none⟩ = some (.int .i64 xs) ∧ W.cell? ⟨w.heap.size, 1, none⟩ = some (.slice a n c))) [(0, true), (1, true), (2, true), (3, true), (4, false), (5, true), (6, true)] (by kernel_rfl) (by kernel_rfl) (by kernel_rfl) (by kernel_rfl) ⟨cell_of_row _ _ 0 _ _ _ (K.drew.get 1 rfl), (rg_cells (K.drew.get 2 rfl)).2⟩ ?_
  simp only [List.map_cons, List.map_nil, List.getElem?_toArray, List.getElem?_cons_zero, List.getElem?_cons_succ]
  repeat (first | (refine Plan.take ?_ (by rfl) ?_ ?_; rotate_left; (· rintro w9 ⟨u0, u1⟩; go_simp; (try rw [if_neg (by omega)]); all_goals (with_reducible rfl)); simp only [Act.put, List.setIfInBounds_toArray, List.set_cons_zero, List.set_cons_succ]) | (refine Plan.pass (by rfl) ?_; simp only [Act.put, List.setIfInBounds_toArray, List.set_cons_zero, List.set_cons_succ]))
  refine Plan.call (by rfl) 18 _ ?_ (HLA.out _ K.drew.hb) ?_
  · go_simp
  rintro r9 w9 ⟨rfl, rfl⟩
  refine ⟨_, rfl, ⟨cell_of_row _ _ 0 _ _ _ (K.drew.get 1 rfl), (rg_cells (K.drew.get 2 rfl)).2⟩, ?_⟩
  simp only [Act.put, List.setIfInBounds_toArray, List.set_cons_zero, List.set_cons_succ]
  repeat (first | (refine Plan.take ?_ (by rfl) ?_ ?_; rotate_left; (· rintro w9 ⟨u0, u1⟩; go_simp; (try rw [if_neg (by omega)]); all_goals (with_reducible rfl)); simp only [Act.put, List.setIfInBounds_toArray, List.set_cons_zero, List.set_cons_succ]) | (refine Plan.pass (by rfl) ?_; simp only [Act.put, List.setIfInBounds_toArray, List.set_cons_zero, List.set_cons_succ]))
  refine Plan.ends ?_
  have K9 := K.drew
  clear K c0 c1
  have K := K9
  clear K9
  generalize World.drew _ = w2 at *
  obtain ⟨c0, c1⟩ := rg_cells (K.get 2 rfl)
  go_upto_region 9 with (first
    | ((with_reducible refine Plan.load_lit 24 (.tmp 2) (w.heap.size) ?_ (K.get 2 rfl) Try.underlying24 ?_ ?_ ?_); (· rfl); (· rfl); (· exact rg_info); simp only [Act.put, List.setIfInBounds_toArray, List.set_cons_zero, List.set_cons_succ]))
  have K9 := (K.al (rgRow d a n c)).drew
  clear K c0 c1
  have K := K9
  clear K9
  generalize w2.heap.size = G at *
  refine Plan.start (fun W => (W.cell? ⟨w.heap.size, 1, none⟩ = some (.slice a n c)) ∧ W.heap[w.heap.size + 1]? = some (.cells #[.int .i64 xs, .int .i64 xk, .int .i64 xb, .string xd] 28)) [(0, true), (1, true), (2, true), (3, true), (4, true), (5, true), (6, false), (7, false), (8, true), (9, false)] (by kernel_rfl) (by kernel_rfl) (by kernel_rfl) (by kernel_rfl) ⟨(rg_cells (K.get 3 rfl)).2, K.get 2 rfl⟩ ?_
  simp only [List.map_cons, List.map_nil, List.getElem?_toArray, List.getElem?_cons_zero, List.getElem?_cons_succ]
  generalize World.drew _ = w3 at *
  repeat (first | (refine Plan.take ?_ (by rfl) ?_ ?_; rotate_left; (· rintro w9 ⟨u0, u1⟩; go_simp; (try rw [if_neg (by omega)]); all_goals (with_reducible rfl)); simp only [Act.put, List.setIfInBounds_toArray, List.set_cons_zero, List.set_cons_succ]) | (refine Plan.pass (by rfl) ?_; simp only [Act.put, List.setIfInBounds_toArray, List.set_cons_zero, List.set_cons_succ]))
  refine Plan.take_load 28 (.tmp 3) (w.heap.size + 1) _ (by rfl) rfl (by rfl) (fun w9 h9 => h9.2) Try.underlying28 rfl rq_info ?_
  simp only [Act.put, List.setIfInBounds_toArray, List.set_cons_zero, List.set_cons_succ]
  have K9 := K.al (.cells #[.int .i64 xs, .int .i64 xk, .int .i64 xb, .string xd] 28 (0, 0))
  refine Plan.make (by rfl) (.slice (some ⟨w3.heap.size, 0, none⟩) 1 1) (w3.alloc (.cells #[.int .i64 xs, .int .i64 xk, .int .i64 xb, .string xd] 28 (0, 0))) ?_ ⟨(rg_cells (K9.get 4 rfl)).2, K9.get 3 rfl⟩ ?_
  · go_simp
  simp only [Act.put, List.setIfInBounds_toArray, List.set_cons_zero, List.set_cons_succ]
  clear K
  have K := K9
  clear K9
  generalize w3.heap.size = gB at *
  generalize w3.alloc (.cells #[.int .i64 xs, .int .i64 xk, .int .i64 xb, .string xd] 28 (0, 0)) = w4 at *
  refine Plan.carry (by rfl) (K.app_full rqOk (.tmp 35) (.tmp 37) rfl (HL.out _ K.hb) (by omega) rfl 0 (e := ⟨xs, xk, xb, xd⟩) rfl rfl ?_)
  intro gA cA w5 K9 _
  refine ⟨⟨(rg_cells (K9.get 5 rfl)).2, K9.get 4 rfl⟩, ?_⟩
  simp only [Act.put, List.setIfInBounds_toArray, List.set_cons_zero, List.set_cons_succ]
  clear K
  have K := K9
  clear K9
  repeat (first | (refine Plan.take ?_ (by rfl) ?_ ?_; rotate_left; (· rintro w9 ⟨u0, u1⟩; go_simp; (try rw [if_neg (by omega)]); all_goals (with_reducible rfl)); simp only [Act.put, List.setIfInBounds_toArray, List.set_cons_zero, List.set_cons_succ]) | (refine Plan.pass (by rfl) ?_; simp only [Act.put, List.setIfInBounds_toArray, List.set_cons_zero, List.set_cons_succ]))
  refine Plan.carry (by rfl) (K.store1 2 rfl 22 (.tmp 39) (.tmp 38) rfl 1 (.slice (some ⟨gA, 0, none⟩) (n + 1) cA) rfl rfl (Nat.lt_succ_self 1) rqs_info1 rfl rfl ?_)
  intro w6 K9 _
  simp only [List.set, List.setIfInBounds_toArray] at K9
  refine ⟨⟨(rg_cells (K9.get 5 rfl)).2, K9.get 4 rfl⟩, ?_⟩
  simp only [Act.put]
  refine Plan.ends ?_
  clear K
  have K := K9
  clear K9
  go_wp2_with (first
    | ((with_reducible refine Plan.load_lit 24 (.tmp 7) G ?_ (K.get 2 rfl) Try.underlying24 ?_ ?_ ?_); (· rfl); (· rfl); (· exact rg_info); simp only [Act.put, List.setIfInBounds_toArray, List.set_cons_zero, List.set_cons_succ])
    | ((with_reducible refine Plan.store_lit 24 (.tmp 4) _ (w.heap.size + 1 + 1) ?_ (K.get 3 rfl) ?_ ?_ ?_ ?_ ?_ ?_); rotate_left; (· rfl); (· rfl); (· exact rg_info); (· rfl); (· simp [Value.oneCell']); simp only [Act.put]))
  have K9 := K.put 3 rfl (cs' := #[.int .i64 d, .slice (some ⟨gA, 0, none⟩) (n + 1) cA]) rfl
  simp only [List.set] at K9
  exact bodyPost_ret (Plan.results_cell_tmp (p := 4) (q := 5) rfl _ _ _ _ _ _ _ rfl (K9.get 3 rfl) Try.underlying24 rfl rg_info) rfl ⟨_, _, _, rfl, (K9.list rqOk 0 rfl).mono (fun b _ h => .inr h), K9.hb⟩
end Go.Proofs.Ytljdepnhhngbeaa.Ents
