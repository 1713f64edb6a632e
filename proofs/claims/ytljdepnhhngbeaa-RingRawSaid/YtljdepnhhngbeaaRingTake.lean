
/- The walk of the document's Take of rings. -/
import Derived.Test.YtljdepnhhngbeaaRingSub
import Derived.Test.YtljdepnhhngbeaaBaseRes3
import Derived.Test.YtljdepnhhngbeaaBaseLoad
namespace Go.Proofs.Ytljdepnhhngbeaa.Ents
open Go.RowKit Plan RingMath Rws Env
/-- what Take leaves -/
def TPost (w : World) (F : Nat → Prop) (d : Int) (L : List Rq) (x : Rq) (b : Bool) (r : Ending) (w' : World) : Prop :=
  ∃ a n c, r = .returned (.tuple #[rgV d a n c, rqV x, .bool b]) ∧ GList w' (fun b => F b ∨ w.heap.size ≤ b) a n c L ∧ Below w.heap.size w w'
theorem take_no {d : Int} {L : List Rq} (h : takeB d L = false) : takeG d L = L ∧ takeX d L = rq0 := by
  unfold takeG takeX; rw [h]; exact ⟨rfl, rfl⟩
theorem take_yes {d : Int} {L : List Rq} {y : Rq} (h : takeB d L = true) (hy : L[0]? = some y) : takeG d L = L.drop 1 ∧ takeX d L = y := by
  unfold takeG takeX; rw [h, if_pos rfl, if_pos rfl, List.getD_eq_getElem?_getD, hy]; exact ⟨rfl, rfl⟩
theorem rq_first {w : World} {F : Nat → Prop} {x : Addr} {n c : Nat} {L : List Rq} (h : GList w F (some x) n c L) {y : Rq} (hy : L[0]? = some y) (hn : 0 < n) :
    w.cell? x = some (.int .i64 y.serial) ∧ w.cell? ⟨x.block, x.off + 1, none⟩ = some (.int .i64 y.kind) ∧ w.cell? ⟨x.block, x.off + 2, none⟩ = some (.int .i64 y.block) ∧ w.cell? ⟨x.block, x.off + 3, none⟩ = some (.string y.data) := by
  obtain ⟨x2, y2, h1, h2, h3⟩ := rq_all h 0 hn
  obtain rfl := Option.some.inj h1
  rw [hy] at h2
  obtain rfl := Option.some.inj h2
  unfold RqAt at h3
  rw [Nat.zero_mul, Addr.add_zero'] at h3
  exact h3
/-- a list without its first element, as Go cuts it -/
theorem tail_list {α : Type} {R : Row α} (hR : R.Ok) {w : World} {F : Nat → Prop} {x : Addr} {n c : Nat} {L : List α} (h : TList R w F (some x) n c L) (hn : 0 < n) : TList R w F (if c = 1 then some x else some (x.add R.sz)) (n - 1) (c - 1) (L.drop 1) := by
  have hb := h.back hR 1 (by omega) hn
  rw [Nat.one_mul] at hb
  by_cases hc : c = 1
  · rw [if_pos hc]
    have hn1 : n = 1 := by have := h.cap; omega
    obtain ⟨y, hy, h5, h6, _⟩ := h.some' hn
    obtain rfl := Option.some.inj hy
    have hl := h.length
    refine .inr ⟨x, rfl, by omega, by have := h.cap; omega, by rw [List.length_drop]; omega, h5, h6, fun j u hu => ?_⟩
    have : L.drop 1 = [] := List.length_eq_zero_iff.1 (by rw [List.length_drop]; omega)
    rw [this] at hu
    simp [Row.all] at hu
  · rw [if_neg hc]
    exact hb
set_option maxHeartbeats 8000000 in
set_option maxRecDepth 20000 in
theorem refGTake_any (F : Nat → Prop) (L : List Rq) (d : Int) (a : Option Addr) (n c : Nat) (w : World) (hl : GList w F a n c L) :
    Calls Try.prog 14 #[rgV d a n c] w (TPost w F d (takeG d L) (takeX d L) (takeB d L)) := by
  have hlen := hl.length
  have hmx : n ≤ maxLen := Nat.le_trans hl.cap.1 hl.cap.2
  unfold maxLen at hmx
  have HV := Lib.hid (fun W (h : Below w.heap.size w W) => refGValid_any _ L d a n c W (hl.same h))
  have HEND := Lib.hid (fun W (h : Below w.heap.size w W) => (show GList W (fun b => F b ∨ w.heap.size ≤ b) a n c L from (hl.cut.on (Same.below h)).mono (fun b _ h => .inl h.1)))
  have K := (((Env.start w).al (rgRow d a n c)).al (rgRow 0 none 0 0)).al (.cells #[.int .i64 0, .int .i64 0, .int .i64 0, .string ⟨#[]⟩] 28)
  simp only [World.size_alloc] at K
  unfold TPost
  cases hva : validG d L
  · have hb : takeB d L = false := by unfold takeB; rw [hva]; rfl
    obtain ⟨e1, e2⟩ := take_no hb
    rw [hb, e1, e2]
    rw [hva] at HV
    clear hl e1 e2 hb hva hlen
    go_enter Try.func14, Try.ntmps14
    generalize hw0 : ((w.alloc (rgRow d a n c)).alloc (rgRow 0 none 0 0)).alloc (.cells #[.int .i64 0, .int .i64 0, .int .i64 0, .string ⟨#[]⟩] 28) = w0 at *
    go_wp2_with (first
      | ((with_reducible refine Plan.load_lit 24 (.tmp 1) (w.heap.size) ?_ (K.get 2 rfl) Try.underlying24 ?_ ?_ ?_); (· rfl); (· rfl); (· exact rg_info); simp only [Act.put, List.setIfInBounds_toArray, List.set_cons_zero, List.set_cons_succ])
      | (go_at_call 16; ((with_reducible refine (HV.out _ K.hb).mono ?_); rintro r9 w1 ⟨rfl, h1⟩; have K1 := K.on h1; clear K h1 hw0; have K := K1; clear K1; obtain ⟨c0, c1⟩ := rg_cells (K.get 2 rfl)))
      | ((with_reducible refine Plan.load_lit 24 (.tmp 1) (w.heap.size) ?_ (K.get 2 rfl) Try.underlying24 ?_ ?_ ?_); (· rfl); (· rfl); (· exact rg_info); simp only [Act.put, List.setIfInBounds_toArray, List.set_cons_zero, List.set_cons_succ])
      | ((with_reducible refine Plan.store_lit 24 (.tmp 2) _ (w.heap.size + 1) #[.int .i64 d, .slice a n c] (K.get 1 rfl) ?_ ?_ ?_ ?_ ?_ ?_); rotate_left; (· rfl); (· exact rg_info); (· rfl); (· simp [Value.oneCell']); rotate_left; (· rfl); simp only [Act.put]; have K9 := K.put 1 rfl (cs' := #[.int .i64 d, .slice a n c]) rfl; simp only [List.set] at K9; clear K; have K := K9; clear K9; generalize World.setRow w1 _ _ = w2 at *)
      | ((with_reducible refine Plan.store_lit 28 (.tmp 3) _ (w.heap.size + 1 + 1) #[.int .i64 0, .int .i64 0, .int .i64 0, .string ⟨#[]⟩] (K.get 0 rfl) ?_ ?_ ?_ ?_ ?_ ?_); rotate_left; (· rfl); (· exact rq_info); (· rfl); (· simp [Value.oneCell']); rotate_left; (· rfl); simp only [Act.put]; have K8 := K.put 0 rfl (cs' := #[.int .i64 0, .int .i64 0, .int .i64 0, .string ⟨#[]⟩]) rfl; simp only [List.set] at K8))
    exact bodyPost_ret (Plan.results_cells_tmp (p := 2) (p2 := 3) (q := 4) rfl _ _ _ _ _ _ _ _ _ _ _ _ rfl (K8.get 1 rfl) rfl (K8.get 0 rfl) Try.underlying24 rfl rg_info Try.underlying28 rfl rq_info) rfl ⟨_, _, _, rfl, HEND.out _ K8.hb, K8.hb⟩
  have hvl := valid_len hva
  rw [hva] at HV
  by_cases hn : n = 0
  · have hb : takeB d L = false := by unfold takeB; rw [hlen, hn]; simp
    obtain ⟨e1, e2⟩ := take_no hb
    rw [hb, e1, e2]
    have t1 : ((n : Int) == 0) = true := by simp; omega
    have t2 : (n == 0) = true := by simp; omega
    clear hl e1 e2 hb hva hlen hn
    go_enter Try.func14, Try.ntmps14
    generalize hw0 : ((w.alloc (rgRow d a n c)).alloc (rgRow 0 none 0 0)).alloc (.cells #[.int .i64 0, .int .i64 0, .int .i64 0, .string ⟨#[]⟩] 28) = w0 at *
    go_wp2_with (first
      | ((with_reducible refine Plan.load_lit 24 (.tmp 1) (w.heap.size) ?_ (K.get 2 rfl) Try.underlying24 ?_ ?_ ?_); (· rfl); (· rfl); (· exact rg_info); simp only [Act.put, List.setIfInBounds_toArray, List.set_cons_zero, List.set_cons_succ])
      | (go_at_call 16; ((with_reducible refine (HV.out _ K.hb).mono ?_); rintro r9 w1 ⟨rfl, h1⟩; have K1 := K.on h1; clear K h1 hw0; have K := K1; clear K1; obtain ⟨c0, c1⟩ := rg_cells (K.get 2 rfl)))
      | ((with_reducible refine Plan.load_lit 24 (.tmp 1) (w.heap.size) ?_ (K.get 2 rfl) Try.underlying24 ?_ ?_ ?_); (· rfl); (· rfl); (· exact rg_info); simp only [Act.put, List.setIfInBounds_toArray, List.set_cons_zero, List.set_cons_succ])
      | ((with_reducible refine Plan.store_lit 24 (.tmp 2) _ (w.heap.size + 1) #[.int .i64 d, .slice a n c] (K.get 1 rfl) ?_ ?_ ?_ ?_ ?_ ?_); rotate_left; (· rfl); (· exact rg_info); (· rfl); (· simp [Value.oneCell']); rotate_left; (· rfl); simp only [Act.put]; have K9 := K.put 1 rfl (cs' := #[.int .i64 d, .slice a n c]) rfl; simp only [List.set] at K9; clear K; have K := K9; clear K9; generalize World.setRow w1 _ _ = w2 at *)
      | ((with_reducible refine Plan.store_lit 28 (.tmp 3) _ (w.heap.size + 1 + 1) #[.int .i64 0, .int .i64 0, .int .i64 0, .string ⟨#[]⟩] (K.get 0 rfl) ?_ ?_ ?_ ?_ ?_ ?_); rotate_left; (· rfl); (· exact rq_info); (· rfl); (· simp [Value.oneCell']); rotate_left; (· rfl); simp only [Act.put]; have K8 := K.put 0 rfl (cs' := #[.int .i64 0, .int .i64 0, .int .i64 0, .string ⟨#[]⟩]) rfl; simp only [List.set] at K8))
    exact bodyPost_ret (Plan.results_cells_tmp (p := 2) (p2 := 3) (q := 4) rfl _ _ _ _ _ _ _ _ _ _ _ _ rfl (K8.get 1 rfl) rfl (K8.get 0 rfl) Try.underlying24 rfl rg_info Try.underlying28 rfl rq_info) rfl ⟨_, _, _, rfl, HEND.out _ K8.hb, K8.hb⟩
  obtain ⟨xa, y, ha, hy, _⟩ := rq_at hl 0 (by omega)
  subst ha
  have hb : takeB d L = true := by unfold takeB; rw [hva, hlen, decide_eq_true (by omega)]; rfl
  obtain ⟨e1, e2⟩ := take_yes hb hy
  rw [hb, e1, e2]
  have t1 : ((n : Int) == 0) = false := by simp; omega
  have t2 : (n == 0) = false := by simp; omega
  have HA := Lib.hid (fun W (h : Below w.heap.size w W) => rq_first (hl.same h) hy (by omega))
  have HT := Lib.hid (fun W (h : Below w.heap.size w W) => tail_list rqOk (hl.same h) (by omega))
  have hnI : (0 : Int) < (n : Int) := by omega
  have hn1 : 1 ≤ n := by omega
  have hn8 : n ≤ 8 := by omega
  have hcp := hl.cap
  unfold maxLen at hcp
  obtain ⟨ys, yk, yb, yd⟩ := y
  simp only at HA
  clear hl e1 e2 hb hva hlen hn HEND hy
  rw [show RQ.sz = 4 from rfl] at HT
  by_cases hc1 : c = 1
  · subst hc1
    obtain rfl : n = 1 := by omega
    simp only [if_true, Nat.sub_self] at HT
    go_enter Try.func14, Try.ntmps14
    generalize hw0 : ((w.alloc (rgRow d (some xa) 1 1)).alloc (rgRow 0 none 0 0)).alloc (.cells #[.int .i64 0, .int .i64 0, .int .i64 0, .string ⟨#[]⟩] 28) = w0 at *
    go_wp2_with (first
      | ((with_reducible refine Plan.load_lit 24 (.tmp 1) (w.heap.size) ?_ (K.get 2 rfl) Try.underlying24 ?_ ?_ ?_); (· rfl); (· rfl); (· exact rg_info); simp only [Act.put, List.setIfInBounds_toArray, List.set_cons_zero, List.set_cons_succ])
      | (go_at_call 16; ((with_reducible refine (HV.out _ K.hb).mono ?_); rintro r9 w1 ⟨rfl, h1⟩; have K1 := K.on h1; clear K h1 hw0; have K := K1; clear K1; obtain ⟨c0, c1⟩ := rg_cells (K.get 2 rfl); obtain ⟨a0, a1, a2, a3⟩ := HA.out _ K.hb; have KZ := K.al (.cells #[.int .i64 0, .int .i64 0, .int .i64 0, .string ⟨#[]⟩] 28)))
      | ((with_reducible refine Plan.store_lit 28 (.tmp 5) _ w1.heap.size #[.int .i64 ys, .int .i64 yk, .int .i64 yb, .string yd] (KZ.get 0 rfl) ?_ ?_ ?_ ?_ ?_ ?_); rotate_left; (· rfl); (· exact rq_info); (· rfl); (· simp [Value.oneCell']); rotate_left; (· rfl); simp only [Act.put]; have K9 := KZ.put 0 rfl (cs' := #[.int .i64 ys, .int .i64 yk, .int .i64 yb, .string yd]) rfl; simp only [List.set] at K9; clear K KZ a0 a1 a2 a3; have K := K9; clear K9; generalize World.setRow _ _ _ = w2 at *; generalize w1.heap.size = G5 at *; obtain ⟨c0, c1⟩ := rg_cells (K.get 3 rfl); have KA : Env w (w2.alloc (.cells #[] 28)) (Env.lst RQ (Env.slv w2.heap.size 0 0) 0 [] :: _) := K.empty RQ; obtain ⟨d0, d1⟩ := rg_cells (KA.get 4 rfl))
      | (refine KA.apps_list rqOk rfl (.tmp 21) (.tmp 24) rfl 0 rfl rfl rfl (HT.out _ KA.hb) (by omega) ?_; intro gA cA w3 K9 _; simp only [List.set, Nat.zero_add, List.nil_append] at K9; simp only [Nat.zero_add, Act.put, List.setIfInBounds_toArray, List.set_cons_zero, List.set_cons_succ]; clear K KA d0 d1; have K := K9; clear K9; obtain ⟨c0, c1⟩ := rg_cells (K.get 4 rfl); have hfz := free_row_c (o := 1) (K.get 4 rfl)))
    rw [setCell_eq_setRow _ _ _ _ _ _ _ (K.get 4 rfl)]
    simp only [List.setIfInBounds_toArray, List.set_cons_zero, List.set_cons_succ]
    have K9 := K.put 4 rfl (cs' := #[.int .i64 d, .slice (some ⟨gA, 0, none⟩) (1 - 1) cA]) rfl
    simp only [List.set] at K9
    clear K c0 c1 hfz
    have K := K9
    clear K9
    generalize World.setRow w3 _ _ = w4 at *
    refine Plan.start (fun W => W.heap[w.heap.size]? = some (rgRow d (some ⟨gA, 0, none⟩) (1 - 1) cA) ∧ W.heap[G5]? = some (.cells #[.int .i64 ys, .int .i64 yk, .int .i64 yb, .string yd] 28)) [(0, true), (1, true), (2, false), (3, false), (4, true)] (by kernel_rfl) (by kernel_rfl) (by kernel_rfl) (by kernel_rfl) ⟨K.drew.get 4 rfl, K.drew.get 1 rfl⟩ ?_
    simp only [List.map_cons, List.map_nil, List.getElem?_toArray, List.getElem?_cons_zero, List.getElem?_cons_succ]
    have K9 := K.drew
    clear K
    have K := K9
    clear K9
    generalize World.drew _ = w5 at *
    refine Plan.take_load 24 (.tmp 1) w.heap.size _ (by rfl) rfl (by rfl) (fun w9 h9 => h9.1) Try.underlying24 rfl rg_info ?_
    simp only [Act.put, List.setIfInBounds_toArray, List.set_cons_zero, List.set_cons_succ]
    refine Plan.take_load 28 (.tmp 5) G5 _ (by rfl) rfl (by rfl) (fun w9 h9 => h9.2) Try.underlying28 rfl rq_info ?_
    simp only [Act.put, List.setIfInBounds_toArray, List.set_cons_zero, List.set_cons_succ]
    have K9 := K.put 3 rfl (cs' := #[.int .i64 d, .slice (some ⟨gA, 0, none⟩) (1 - 1) cA]) rfl
    simp only [List.set] at K9
    refine Plan.carry (by rfl) (wp_store_row 24 (.tmp 2) (.tmp 27) rfl (w.heap.size + 1) #[.int .i64 d, .slice (some ⟨gA, 0, none⟩) (1 - 1) cA] rfl rfl _ _ (K.get 3 rfl) rg_info rfl (by simp [Value.oneCell']) ⟨⟨K9.get 4 rfl, K9.get 1 rfl⟩, ?_⟩)
    simp only [Act.put]
    clear K
    have K := K9
    clear K9
    generalize World.setRow w5 _ _ = w6 at *
    have K8 := K.put 2 rfl (cs' := #[.int .i64 ys, .int .i64 yk, .int .i64 yb, .string yd]) rfl
    simp only [List.set] at K8
    refine Plan.carry (by rfl) (wp_store_row 28 (.tmp 3) (.tmp 28) rfl (w.heap.size + 1 + 1) #[.int .i64 ys, .int .i64 yk, .int .i64 yb, .string yd] rfl rfl _ _ (K.get 2 rfl) rq_info rfl (by simp [Value.oneCell']) ⟨⟨K8.get 4 rfl, K8.get 1 rfl⟩, ?_⟩)
    simp only [Act.put]
    repeat (first | (refine Plan.take ?_ (by rfl) ?_ ?_; rotate_left; (· rintro w9 ⟨u0, u1⟩; go_simp; (try rw [if_neg (by omega)]); all_goals (with_reducible rfl)); simp only [Act.put, List.setIfInBounds_toArray, List.set_cons_zero, List.set_cons_succ]) | (refine Plan.pass (by rfl) ?_; simp only [Act.put, List.setIfInBounds_toArray, List.set_cons_zero, List.set_cons_succ]))
    refine Plan.ends ?_
    go_wp2_with fail
    exact bodyPost_ret (Plan.results_cells_tmp (p := 2) (p2 := 3) (q := 4) rfl _ _ _ _ _ _ _ _ _ _ _ _ rfl (K8.get 3 rfl) rfl (K8.get 2 rfl) Try.underlying24 rfl rg_info Try.underlying28 rfl rq_info) rfl ⟨_, _, _, rfl, (K8.list rqOk 0 rfl).mono (fun b _ h => .inr h), K8.hb⟩
  · have hx4 : xa.add 4 = ⟨xa.block, xa.off + 4, none⟩ := by unfold Addr.add; simp
    simp only [if_neg hc1, hx4] at HT
    clear hx4
    go_enter Try.func14, Try.ntmps14
    generalize hw0 : ((w.alloc (rgRow d (some xa) n c)).alloc (rgRow 0 none 0 0)).alloc (.cells #[.int .i64 0, .int .i64 0, .int .i64 0, .string ⟨#[]⟩] 28) = w0 at *
    go_wp2_with (first
      | ((with_reducible refine Plan.load_lit 24 (.tmp 1) (w.heap.size) ?_ (K.get 2 rfl) Try.underlying24 ?_ ?_ ?_); (· rfl); (· rfl); (· exact rg_info); simp only [Act.put, List.setIfInBounds_toArray, List.set_cons_zero, List.set_cons_succ])
      | (go_at_call 16; ((with_reducible refine (HV.out _ K.hb).mono ?_); rintro r9 w1 ⟨rfl, h1⟩; have K1 := K.on h1; clear K h1 hw0; have K := K1; clear K1; obtain ⟨c0, c1⟩ := rg_cells (K.get 2 rfl); obtain ⟨a0, a1, a2, a3⟩ := HA.out _ K.hb; have KZ := K.al (.cells #[.int .i64 0, .int .i64 0, .int .i64 0, .string ⟨#[]⟩] 28)))
      | ((with_reducible refine Plan.store_lit 28 (.tmp 5) _ w1.heap.size #[.int .i64 ys, .int .i64 yk, .int .i64 yb, .string yd] (KZ.get 0 rfl) ?_ ?_ ?_ ?_ ?_ ?_); rotate_left; (· rfl); (· exact rq_info); (· rfl); (· simp [Value.oneCell']); rotate_left; (· rfl); simp only [Act.put]; have K9 := KZ.put 0 rfl (cs' := #[.int .i64 ys, .int .i64 yk, .int .i64 yb, .string yd]) rfl; simp only [List.set] at K9; clear K KZ a0 a1 a2 a3; have K := K9; clear K9; generalize World.setRow _ _ _ = w2 at *; generalize w1.heap.size = G5 at *; obtain ⟨c0, c1⟩ := rg_cells (K.get 3 rfl); have KA : Env w (w2.alloc (.cells #[] 28)) (Env.lst RQ (Env.slv w2.heap.size 0 0) 0 [] :: _) := K.empty RQ; obtain ⟨d0, d1⟩ := rg_cells (KA.get 4 rfl))
      | (refine KA.apps_list rqOk rfl (.tmp 21) (.tmp 24) rfl 0 rfl rfl rfl (HT.out _ KA.hb) (by omega) ?_; intro gA cA w3 K9 _; simp only [List.set, Nat.zero_add, List.nil_append] at K9; simp only [Nat.zero_add, Act.put, List.setIfInBounds_toArray, List.set_cons_zero, List.set_cons_succ]; clear K KA d0 d1; have K := K9; clear K9; obtain ⟨c0, c1⟩ := rg_cells (K.get 4 rfl); have hfz := free_row_c (o := 1) (K.get 4 rfl)))
    rw [setCell_eq_setRow _ _ _ _ _ _ _ (K.get 4 rfl)]
    simp only [List.setIfInBounds_toArray, List.set_cons_zero, List.set_cons_succ]
    have K9 := K.put 4 rfl (cs' := #[.int .i64 d, .slice (some ⟨gA, 0, none⟩) (n - 1) cA]) rfl
    simp only [List.set] at K9
    clear K c0 c1 hfz
    have K := K9
    clear K9
    generalize World.setRow w3 _ _ = w4 at *
    refine Plan.start (fun W => W.heap[w.heap.size]? = some (rgRow d (some ⟨gA, 0, none⟩) (n - 1) cA) ∧ W.heap[G5]? = some (.cells #[.int .i64 ys, .int .i64 yk, .int .i64 yb, .string yd] 28)) [(0, true), (1, true), (2, false), (3, false), (4, true)] (by kernel_rfl) (by kernel_rfl) (by kernel_rfl) (by kernel_rfl) ⟨K.drew.get 4 rfl, K.drew.get 1 rfl⟩ ?_
    simp only [List.map_cons, List.map_nil, List.getElem?_toArray, List.getElem?_cons_zero, List.getElem?_cons_succ]
    have K9 := K.drew
    clear K
    have K := K9
    clear K9
    generalize World.drew _ = w5 at *
    refine Plan.take_load 24 (.tmp 1) w.heap.size _ (by rfl) rfl (by rfl) (fun w9 h9 => h9.1) Try.underlying24 rfl rg_info ?_
    simp only [Act.put, List.setIfInBounds_toArray, List.set_cons_zero, List.set_cons_succ]
    refine Plan.take_load 28 (.tmp 5) G5 _ (by rfl) rfl (by rfl) (fun w9 h9 => h9.2) Try.underlying28 rfl rq_info ?_
    simp only [Act.put, List.setIfInBounds_toArray, List.set_cons_zero, List.set_cons_succ]
    have K9 := K.put 3 rfl (cs' := #[.int .i64 d, .slice (some ⟨gA, 0, none⟩) (n - 1) cA]) rfl
    simp only [List.set] at K9
    refine Plan.carry (by rfl) (wp_store_row 24 (.tmp 2) (.tmp 27) rfl (w.heap.size + 1) #[.int .i64 d, .slice (some ⟨gA, 0, none⟩) (n - 1) cA] rfl rfl _ _ (K.get 3 rfl) rg_info rfl (by simp [Value.oneCell']) ⟨⟨K9.get 4 rfl, K9.get 1 rfl⟩, ?_⟩)
    simp only [Act.put]
    clear K
    have K := K9
    clear K9
    generalize World.setRow w5 _ _ = w6 at *
    have K8 := K.put 2 rfl (cs' := #[.int .i64 ys, .int .i64 yk, .int .i64 yb, .string yd]) rfl
    simp only [List.set] at K8
    refine Plan.carry (by rfl) (wp_store_row 28 (.tmp 3) (.tmp 28) rfl (w.heap.size + 1 + 1) #[.int .i64 ys, .int .i64 yk, .int .i64 yb, .string yd] rfl rfl _ _ (K.get 2 rfl) rq_info rfl (by simp [Value.oneCell']) ⟨⟨K8.get 4 rfl, K8.get 1 rfl⟩, ?_⟩)
    simp only [Act.put]
    repeat (first | (refine Plan.take ?_ (by rfl) ?_ ?_; rotate_left; (· rintro w9 ⟨u0, u1⟩; go_simp; (try rw [if_neg (by omega)]); all_goals (with_reducible rfl)); simp only [Act.put, List.setIfInBounds_toArray, List.set_cons_zero, List.set_cons_succ]) | (refine Plan.pass (by rfl) ?_; simp only [Act.put, List.setIfInBounds_toArray, List.set_cons_zero, List.set_cons_succ]))
    refine Plan.ends ?_
    go_wp2_with fail
    exact bodyPost_ret (Plan.results_cells_tmp (p := 2) (p2 := 3) (q := 4) rfl _ _ _ _ _ _ _ _ _ _ _ _ rfl (K8.get 3 rfl) rfl (K8.get 2 rfl) Try.underlying24 rfl rg_info Try.underlying28 rfl rq_info) rfl ⟨_, _, _, rfl, (K8.list rqOk 0 rfl).mono (fun b _ h => .inr h), K8.hb⟩
end Go.Proofs.Ytljdepnhhngbeaa.Ents
