/- Texts that belong together, part 20. -/
import Derived.Test.YtbfoagfemgogkaaPack19

/- The walk of the program's Retire of epochs. -/
namespace Go.Proofs.Ytbfoagfemgogkaa.Ents
open Go.RowKit Plan EntMath CntMath EpoMath Rws
attribute [local go_sem] Oper.semAt_some
theorem keeps_row {W : World} {g : Nat} {cs : Array Value} {o : Obj} (hg : W.heap[g]? = some o) (ho : o.isCells = true) : KeepsOthers W (W.setRow g cs) :=
  ⟨Nat.le_of_eq (by simp [World.setRow]), fun k o' hk ho' => (setRow_other _ _ _ _ (by rintro rfl; rw [hg] at hk; cases hk; rw [ho] at ho'; cases ho')).trans hk⟩
/-- where Retire stands: its boxes -/
structure TW (w W : World) (R : Obj) (z : Int) : Prop where
  bE : W.heap[w.heap.size]? = some R
  bZ : W.heap[w.heap.size + 1]? = some (.cells #[.int .i64 z] 3 (0, 0))
  bP : W.heap[w.heap.size + 1 + 1]? = some (epoRow 0 none 0 0 none 0 0)
  bO : W.heap[w.heap.size + 1 + 1 + 1]? = some (.cells #[.bool false] 4 (0, 0))
  hb : Below w.heap.size w W
/-- what it leaves -/
structure TR (w W : World) (g : Int) (a : Option Addr) (n c : Nat) (b : Option Addr) (m d : Nat) (o : Bool) : Prop where
  bP : W.heap[w.heap.size + 1 + 1]? = some (epoRow g a n c b m d)
  bO : W.heap[w.heap.size + 1 + 1 + 1]? = some (.cells #[.bool o] 4 (0, 0))
  hb : Below w.heap.size w W
section
variable {w W W' : World} {R : Obj} {z : Int}
theorem TW.grown {row : Option Nat} (K : TW w W R z) (h : W.grownBy W' row) (hr : ∀ r, row = some r → w.heap.size + 4 ≤ r) : TW w W' R z :=
  ⟨(h.block _ (e_lt K.bE) (fun e => by have := hr _ e.symm; omega)).trans K.bE, (h.block _ (e_lt K.bZ) (fun e => by have := hr _ e.symm; omega)).trans K.bZ,
    (h.block _ (e_lt K.bP) (fun e => by have := hr _ e.symm; omega)).trans K.bP, (h.block _ (e_lt K.bO) (fun e => by have := hr _ e.symm; omega)).trans K.bO, K.hb.grown h K.hb.size (fun z hz => by have := hr z hz; omega)⟩
theorem TW.al (K : TW w W R z) (p : Obj) : TW w (W.alloc p) R z := K.grown (World.grownBy_alloc W p none) (fun r e => by cases e)
theorem TW.on (K : TW w W R z) (h : Below W.heap.size W W') : TW w W' R z := ⟨e_on h K.bE (e_lt K.bE), e_on h K.bZ (e_lt K.bZ), e_on h K.bP (e_lt K.bP), e_on h K.bO (e_lt K.bO), K.hb.trans (h.mono K.hb.size)⟩
theorem TW.row (K : TW w W R z) {g : Nat} (hg : w.heap.size + 4 ≤ g) (cs : Array Value) : TW w (W.setRow g cs) R z :=
  ⟨(setRow_other _ _ _ _ (by omega)).trans K.bE, (setRow_other _ _ _ _ (by omega)).trans K.bZ, (setRow_other _ _ _ _ (by omega)).trans K.bP, (setRow_other _ _ _ _ (by omega)).trans K.bO, below_setRow K.hb (by omega) _⟩
theorem TW.start (w : World) (R : Obj) (z : Int) : TW w ((((w.alloc R).alloc (.cells #[.int .i64 z] 3)).alloc (epoRow 0 none 0 0 none 0 0)).alloc (.cells #[.bool false] 4)) R z := by
  have q1 := heap_alloc_new (w.alloc R) (.cells #[.int .i64 z] 3)
  have q2 := heap_alloc_new ((w.alloc R).alloc (.cells #[.int .i64 z] 3)) (epoRow 0 none 0 0 none 0 0)
  have q3 := heap_alloc_new (((w.alloc R).alloc (.cells #[.int .i64 z] 3)).alloc (epoRow 0 none 0 0 none 0 0)) (.cells #[.bool false] 4)
  simp only [World.size_alloc] at q1 q2 q3
  exact ⟨e_al (e_al (e_al (heap_alloc_new w R) _) _) _, e_al (e_al q1 _) _, e_al q2 _, q3, ((((Below.refl _ w).alloc (Nat.le_refl _) _).alloc (by simp) _).alloc (by simp; omega) _).alloc (by simp; omega) _⟩
theorem TW.bO2 (K : TW w W R z) (cs : Array Value) : (W.setRow (w.heap.size + 1 + 1) cs).heap[w.heap.size + 1 + 1 + 1]? = some (.cells #[.bool false] 4 (0, 0)) := (setRow_other _ _ _ _ (by omega)).trans K.bO
theorem TW.fin (K : TW w W R z) (g : Int) (a : Option Addr) (n c : Nat) (b : Option Addr) (m d : Nat) (o : Bool) :
    TR w ((W.setRow (w.heap.size + 1 + 1) #[.int .i64 g, .slice a n c, .slice b m d]).setRow (w.heap.size + 1 + 1 + 1) #[.bool o]) g a n c b m d o :=
  ⟨(setRow_other _ _ _ _ (by omega)).trans (setRow_heap _ _ _ _ _ _ K.bP), setRow_heap _ _ _ _ _ _ (K.bO2 _), below_setRow (below_setRow K.hb (by omega) _) (by omega) _⟩
theorem TW.ko (K : TW w W R z) (cs : Array Value) (o : Bool) : KeepsOthers W ((W.setRow (w.heap.size + 1 + 1) cs).setRow (w.heap.size + 1 + 1 + 1) #[.bool o]) :=
  (keeps_row K.bP rfl).trans (keeps_row (K.bO2 cs) rfl)
end
theorem TR.grown {w W W' : World} {row : Option Nat} {g : Int} {a b : Option Addr} {n c m d : Nat} {o : Bool} (K : TR w W g a n c b m d o) (h : W.grownBy W' row) (hr : ∀ r, row = some r → w.heap.size + 4 ≤ r) : TR w W' g a n c b m d o :=
  ⟨(h.block _ (e_lt K.bP) (fun e => by have := hr _ e.symm; omega)).trans K.bP, (h.block _ (e_lt K.bO) (fun e => by have := hr _ e.symm; omega)).trans K.bO, K.hb.grown h K.hb.size (fun z hz => by have := hr z hz; omega)⟩
theorem two_lists {W : World} {F : Nat → Prop} {x y : Nat} {b : Option Addr} {m d : Nat} {Z : List Ret} {r : Ret} (hl : RList W F b m d Z) (hx : W.heap[x]? = some (.cells #[.slice b m d, .slice (some ⟨y, 0, none⟩) 1 1] 23 (0, 0))) (hy : W.heap[y]? = some (retRow r.zone r.epoch)) :
    RListsAt W (fun b => b < W.heap.size) ⟨x, 0, none⟩ [Z, [r]] :=
  ⟨fun i L hi => by
    match i, hi with
    | 0, hi =>
      obtain rfl := Option.some.inj hi
      exact ⟨b, m, d, by rw [Addr.add_lit]; exact cell_of_row _ _ 0 _ _ _ hx, hl.low⟩
    | 1, hi =>
      obtain rfl := Option.some.inj hi
      exact ⟨_, 1, 1, by rw [Addr.add_lit]; exact cell_of_row _ _ 1 _ _ _ hx, .inr ⟨_, rfl, Nat.le_refl _, by unfold maxLen; decide, rfl, e_lt hy, e_lt hy, list_one (R := RR) hy⟩⟩⟩
set_option maxRecDepth 100000 in
set_option maxHeartbeats 8000000 in
theorem epoRetire_in {F : Fence} (hW : Wide F) (n : Nat) (hn : 3 ≤ n) (Fs : Nat → Prop) (E : Epo) (z : Int) (g : Int) (a b : Option Addr) (k c m d : Nat) (w : World) (hF : ∀ b, Fs b → b < w.heap.size) (hl : PList w Fs g a k c b m d E) (hm : m ≤ 1000) :
    CallsIn F n Try.prog 20 #[epoV g a k c b m d, .int .i64 z] w (EpoPost w Fs (retireE E z) (retireB E z)) := by
  have h1 : 1 ≤ n := by omega
  have h1' : 1 ≤ n - 1 - 1 := by omega
  have hro := hW.ro
  have hfn := hW.fn
  have K0 := TW.start w (epoRow g a k c b m d) z
  have HV := Lib.hid (epoValid_any _ E g a b k c m d _ (hl.same K0.hb))
  have HI := Lib.hid (fun W => epoZone_any z W)
  have HZ := Lib.hid hl.z
  have HP := Lib.hid (fun W (h : Below w.heap.size w W) => (show PList W (Plus Fs w.heap.size) g a k c b m d E from (hl.cut.on (Same.below h)).mono (fun b _ h => .inl h.1)))
  have hglob := hl.hg
  have hlen := hl.z.length
  clear hl
  have HDO := Lib.hid (fun (h : retireB E z = false) => (show retireE E z = E from by unfold retireE; rw [if_neg (by rw [h]; decide)]))
  unfold EpoPost
  cases hv : validE E
  · have hr : retireB E z = false := by unfold retireB; rw [hv]; rfl
    rw [HDO.out hr, hr]
    rw [hv] at HV
    clear hr hv hglob
    refine callsIn_of_wp_marks Try.func20 rfl (hW.fn _) ?_ hW.ro
    simp only [Try.ntmps20, List.size_toArray, List.length_cons, List.length_nil, Nat.reduceAdd, Nat.reduceSub, Array.replicate_succ, Array.replicate_zero, List.push_toArray, List.append_toArray, List.nil_append, List.cons_append]
    gi_wp2_with (first
      | (gi_at_call 24; ((with_reducible refine (hW.calls HV.out).mono ?_); rintro r9 w1 ⟨rfl, h9⟩; have K1 := K0.on h9; clear HV h9 K0))
      | ((with_reducible refine Res.gi_load_lit 25 (.tmp 2) (w.heap.size) ?_ K1.bE Try.underlying25 ?_ ?_ ?_); (· rfl); (· rfl); (· exact epo_info); simp only [Act.put, List.setIfInBounds_toArray, List.set_cons_zero, List.set_cons_succ])
      | ((with_reducible refine Res.gi_store_lit 25 (.tmp 4) _ (w.heap.size + 1 + 1) ?_ K1.bP ?_ ?_ ?_ ?_ ?_ ?_); rotate_left; (· rfl); (· rfl); (· exact epo_info); (· rfl); (· simp [Value.oneCell']); simp only [Act.put])
      | ((with_reducible refine Res.gi_store_at 4 (.tmp 5) _ (w.heap.size + 1 + 1 + 1) 0 ?_ (K1.bO2 _) ?_ ?_ ?_ ?_ ?_ ?_ ?_); rotate_left; (· rfl); (· rfl); (· simp); (· kernel_rfl); (· rfl); (· rfl); simp only [Act.put, List.setIfInBounds_toArray, List.set_cons_zero]))
    have K2 := K1.fin g a k c b m d false
    exact ⟨_, Res.results_row_one rfl _ _ (w.heap.size + 1 + 1) (w.heap.size + 1 + 1 + 1) _ _ _ (.bool false) rfl rfl K2.bP Try.underlying25 rfl epo_info rfl Try.underlying4 (cell_of_row _ _ 0 _ _ _ K2.bO), ⟨_, _, _, _, _, _, _, rfl, HP.out _ K2.hb, K2.hb⟩⟩
  · rw [hv] at HV
    by_cases hz : 0 ≤ z
    · rw [decide_eq_true hz] at HI
      refine callsIn_of_wp_marks Try.func20 rfl (hW.fn _) ?_ hW.ro
      simp only [Try.ntmps20, List.size_toArray, List.length_cons, List.length_nil, Nat.reduceAdd, Nat.reduceSub, Array.replicate_succ, Array.replicate_zero, List.push_toArray, List.append_toArray, List.nil_append, List.cons_append]
      gi_wp2_with (first
        | (gi_at_call 24; ((with_reducible refine (hW.calls HV.out).mono ?_); rintro r9 w1 ⟨rfl, h9⟩; have K1 := K0.on h9; have cz := cell_of_row _ _ 0 _ _ _ K1.bZ; clear HV h9 K0))
        | (gi_at_call 36; ((with_reducible refine (hW.calls (HI.out _)).mono ?_); rintro r9 w9 ⟨rfl, rfl⟩))
        | ((with_reducible refine Res.gi_load_lit 25 (.tmp 2) (w.heap.size) ?_ K1.bE Try.underlying25 ?_ ?_ ?_); (· rfl); (· rfl); (· exact epo_info); simp only [Act.put, List.setIfInBounds_toArray, List.set_cons_zero, List.set_cons_succ])
        | (gi_at_call 37; refine (epoIter_in hW (n - 1) _ _ _ _ _ _ _ _).mono ?_; rintro e9 w9 ⟨rfl, rfl⟩))
      have K2 := K1.al (epoRow g a k c b m d)
      have q4 := heap_alloc_new w1 (epoRow g a k c b m d)
      have hsz : (w1.alloc (epoRow g a k c b m d)).heap.size = w1.heap.size + 1 := by simp
      have hs1 := e_lt K1.bO
      generalize w1.alloc (epoRow g a k c b m d) = W0 at *
      have hlW := HZ.out.on (Same.below (F := Fs) K2.hb)
      refine wpIn_rangeFunc_ownH hro h1 (gf := 46) (lb := #[.pointer (some ⟨w1.heap.size, 0, none⟩)]) rfl (hfn _) (enters_of Try.func46 (by kernel_rfl) rfl)
        (epoIter_stops hW (n - 1) (by omega) w1.heap.size w.heap.size Fs hF g a b k c m d E.zones W0 (by omega) q4 hlW) belowK_t (belowK_b (by omega)) (Below.refl _ _) (fun _ => rfl)
        (fun (pre : List (Nat × Ret)) W => TW w W (epoRow g a k c b m d) z ∧ isRet (pre.map Prod.snd) z = false)
        (fun cc (pre : List (Nat × Ret)) W => cc = .ret ∧ isRet (pre.map Prod.snd) z = true ∧ TR w W g a k c b m d false)
        (fun s A B row hs hg hr => ⟨hs.1.grown hg (fun r e => by have := (hr r e).1; omega), hs.2⟩)
        (fun _ s A B row hs hg hr => ⟨hs.1, hs.2.1, hs.2.2.grown hg (fun r e => by have := (hr r e).1; omega)⟩)
        ⟨K2, rfl⟩
        (fun x a' W => ∃ Bx, w.heap.size + 3 < Bx ∧ W.heap[Bx]? = some (retRow x.2.zone x.2.epoch) ∧ a' = { tmps := #[epoV g a k c b m d, .int .i64 z, .pointer (some ⟨w.heap.size, 0, none⟩), .pointer (some ⟨w.heap.size + 1, 0, none⟩), .pointer (some ⟨w.heap.size + 1 + 1, 0, none⟩), .pointer (some ⟨w.heap.size + 1 + 1 + 1, 0, none⟩), undef, .pointer (some ⟨Bx, 0, none⟩), undef, epoV g a k c b m d, .bool true, .bool false, .bool false, .int .i64 z, .bool true, .bool false, .bool false, undef, epoV g a k c b m d, .func (.func 46) #[] #[.pointer (some ⟨w1.heap.size, 0, none⟩)], .int .i64 (x.1 : Int), retV x.2, undef, undef, undef, undef, undef, undef, undef, undef, undef, undef, undef, undef, undef, undef, undef, undef, undef], defers := [] })
        (fun x a' _ X Y row hs hg hr => by obtain ⟨Bx, h1, h2, h3⟩ := hs; exact ⟨Bx, h1, box_own Bx _ rfl () X Y row h2 hg (fun r e => (hr r e).2), h3⟩)
        ?assign ?body ?done ?stop
      case assign =>
        rintro l pre x W K ⟨K3, hok⟩ hK
        gi_wp2
        exact hK _ _ ((KeepsOthers.alloc _ _).from _) ((Below.refl _ W).alloc K3.hb.size _) ⟨K3.al _, hok⟩ ⟨W.heap.size, by have := e_lt K3.bO; omega, heap_alloc_new W _, rfl⟩
      case body =>
        have hszh := Lib.hid hsz
        clear hsz
        rintro l pre ⟨i, rz, re⟩ a' W hl - ⟨K3, hok⟩ ⟨Bx, hBx, bX, rfl⟩ -
        obtain ⟨d0, d1⟩ := two_row bX
        have cz := cell_of_row _ _ 0 _ _ _ K3.bZ
        have hsn := ret_snoc (pre.map Prod.snd) ⟨rz, re⟩ z
        rw [hok] at hsn
        by_cases q1 : rz = z
        · have t1 : (rz == z) = true := by simpa using q1
          have HQ := Lib.hid (show _ ∧ isRet ((pre ++ [(i, (⟨rz, re⟩ : Ret))]).map Prod.snd) z = true ∧ _ from
            ⟨(K3.ko #[.int .i64 g, .slice a k c, .slice b m d] false).from W0.heap.size, by rw [List.map_append]; exact hsn.trans (by simp [q1]), K3.fin g a k c b m d false⟩)
          clear hsn hok
          subst q1
          gi_wp2_with (first
            | ((with_reducible refine Res.gi_load_lit 25 (.tmp 2) (w.heap.size) ?_ K3.bE Try.underlying25 ?_ ?_ ?_); (· rfl); (· rfl); (· exact epo_info); simp only [Act.put, List.setIfInBounds_toArray, List.set_cons_zero, List.set_cons_succ])
            | ((with_reducible refine Res.gi_store_lit 25 (.tmp 4) _ (w.heap.size + 1 + 1) ?_ K3.bP ?_ ?_ ?_ ?_ ?_ ?_); rotate_left; (· rfl); (· rfl); (· exact epo_info); (· rfl); (· simp [Value.oneCell']); simp only [Act.put])
            | ((with_reducible refine Res.gi_store_at 4 (.tmp 5) _ (w.heap.size + 1 + 1 + 1) 0 ?_ (K3.bO2 _) ?_ ?_ ?_ ?_ ?_ ?_ ?_); rotate_left; (· rfl); (· rfl); (· simp); (· kernel_rfl); (· rfl); (· rfl); simp only [Act.put, List.setIfInBounds_toArray, List.set_cons_zero]))
          exact ⟨HQ.out.1, rfl, HQ.out.2⟩
        · have t1 : (rz == z) = false := by simpa using q1
          have HQ := Lib.hid (show KeepsFrom W0.heap.size W W ∧ Below w.heap.size W W ∧ TW w W (epoRow g a k c b m d) z ∧ isRet ((pre ++ [(i, (⟨rz, re⟩ : Ret))]).map Prod.snd) z = false from
            ⟨KeepsFrom.refl _ _, Below.refl _ _, K3, by rw [List.map_append]; exact hsn.trans (by simp [q1])⟩)
          clear hsn hok
          gi_wp2
          exact HQ.out
      case done =>
        rintro D ys W hD rfl ⟨K3, hok⟩ hK
        rw [show (idx E.zones).map Prod.snd = E.zones from idx_snd _] at hok
        have hr : retireB E z = true := by unfold retireB; rw [hv, decide_eq_true hz, hok]; rfl
        have HR1 := Lib.hid hr
        have HR2 := Lib.hid (show retireE E z = ⟨g, E.pins, E.zones ++ [⟨z, g⟩]⟩ by unfold retireE; rw [if_pos hr, hglob])
        clear hr hok hv
        have K4 := K3.al (epoRow g a k c b m d)
        obtain ⟨c0, c1, c2⟩ := three_row K4.bE
        have cz := cell_of_row _ _ 0 _ _ _ K4.bZ
        have hWs := e_lt K3.bO
        have hx4 := heap_alloc_new (((W.alloc (epoRow g a k c b m d))).alloc (retRow z g)) (.cells #[.slice b m d, .slice (some ⟨W.heap.size + 1, 0, none⟩) 1 1] 23)
        have hy4 := e_al (heap_alloc_new (W.alloc (epoRow g a k c b m d)) (retRow z g)) (.cells #[.slice b m d, .slice (some ⟨W.heap.size + 1, 0, none⟩) 1 1] 23)
        have hC4 := e_al (e_al (heap_alloc_new W (epoRow g a k c b m d)) (retRow z g)) (.cells #[.slice b m d, .slice (some ⟨W.heap.size + 1, 0, none⟩) 1 1] 23)
        have hK4 := e_al (e_al (e_al hK (epoRow g a k c b m d)) (retRow z g)) (.cells #[.slice b m d, .slice (some ⟨W.heap.size + 1, 0, none⟩) 1 1] 23)
        have K5 := (K4.al (retRow z g)).al (.cells #[.slice b m d, .slice (some ⟨W.heap.size + 1, 0, none⟩) 1 1] 23)
        have hs4 : (((W.alloc (epoRow g a k c b m d)).alloc (retRow z g)).alloc (.cells #[.slice b m d, .slice (some ⟨W.heap.size + 1, 0, none⟩) 1 1] 23)).heap.size = W.heap.size + 3 := by simp
        simp only [World.size_alloc] at hx4 hy4
        have hDW := e_lt hK
        have HC := Lib.hid (rconcat_any _ _ _ 2 2 _ (two_lists (r := ⟨z, g⟩) (HZ.out.on (Same.below (F := Fs) K5.hb)) hx4 hy4) rfl (by decide) (by simp; omega))
        rw [show [E.zones, [(⟨z, g⟩ : Ret)]].flatten = E.zones ++ [⟨z, g⟩] by simp] at HC
        unfold CatP at HC
        have HS4 := Lib.hid hs4
        have hwD : w.heap.size ≤ D := by omega
        clear hs4 hx4 hy4 hlW hsz q4 K2 K1
        gi_wp2_with (first
          | ((with_reducible refine Res.gi_load_lit 25 (.tmp 2) (w.heap.size) ?_ K3.bE Try.underlying25 ?_ ?_ ?_); (· rfl); (· rfl); (· exact epo_info); simp only [Act.put, List.setIfInBounds_toArray, List.set_cons_zero, List.set_cons_succ])
          | (gi_at_call 38; ((with_reducible refine (hW.calls HC.out).mono ?_); rintro r9 w5 ⟨a9, n9, c9, rfl, l9, h9⟩; have K6 := K5.on h9; have hC6 := e_on h9 hC4 (e_lt hC4); have hK6 := e_on h9 hK4 (e_lt hK4); clear HC K5 hC4 hK4 h9))
          | ((with_reducible refine Res.gi_store_at 23 (.tmp 37) _ (W.heap.size) 2 (.slice a9 n9 c9) hC6 ?_ ?_ ?_ ?_ ?_ ?_ ?_); (· rfl); (· rfl); (· simp); (· kernel_rfl); (· rfl); (· rfl); simp only [Act.put, List.setIfInBounds_toArray, List.set_cons_zero, List.set_cons_succ]; have K7 := K6.row (show w.heap.size + 4 ≤ W.heap.size by omega) #[.int .i64 g, .slice a k c, .slice a9 n9 c9]; have hC7 := setRow_heap _ _ _ #[.int .i64 g, .slice a k c, .slice a9 n9 c9] _ _ hC6; have hK7 := (setRow_other w5 W.heap.size D #[.int .i64 g, .slice a k c, .slice a9 n9 c9] (by omega)).trans hK6; have l7 := l9.on (Same.row (r := W.heap.size) (fun h => by have := HS4.out; omega) #[.int .i64 g, .slice a k c, .slice a9 n9 c9]); clear K6 hC6 hK6 l9)
          | ((with_reducible refine Res.gi_load_lit 25 (.tmp 8) (W.heap.size) ?_ hC7 Try.underlying25 ?_ ?_ ?_); (· rfl); (· rfl); (· exact epo_info); simp only [Act.put, List.setIfInBounds_toArray, List.set_cons_zero, List.set_cons_succ])
          | ((with_reducible refine Res.gi_store_lit 25 (.tmp 4) _ (w.heap.size + 1 + 1) ?_ K7.bP ?_ ?_ ?_ ?_ ?_ ?_); rotate_left; (· rfl); (· rfl); (· exact epo_info); (· rfl); (· simp [Value.oneCell']); simp only [Act.put])
          | ((with_reducible refine Res.gi_store_at 4 (.tmp 5) _ (w.heap.size + 1 + 1 + 1) 0 ?_ (K7.bO2 _) ?_ ?_ ?_ ?_ ?_ ?_ ?_); rotate_left; (· rfl); (· rfl); (· simp); (· kernel_rfl); (· rfl); (· rfl); simp only [Act.put, List.setIfInBounds_toArray, List.set_cons_zero]))
        have K8 := K7.fin g a k c a9 n9 c9 true
        have hK8 := (K7.ko #[.int .i64 g, .slice a k c, .slice a9 n9 c9] true).same D _ hK7 rfl
        have hb8 := K8.hb.trans (belowK_b (w := w) (Nat.le_refl _) _ D _ (.deferred none) (by omega) hK8 rfl rfl)
        have l8 := ((l7.on (Same.row (r := w.heap.size + 1 + 1) (fun h => by have := HS4.out; omega) #[.int .i64 g, .slice a k c, .slice a9 n9 c9])).on (Same.row (r := w.heap.size + 1 + 1 + 1) (fun h => by have := HS4.out; omega) #[.bool true])).on (⟨Nat.le_of_eq (by simp [World.putObj]), fun b hb _ => World.putObj_heap_other (by rintro rfl; have := HS4.out; omega)⟩ : Same _ _ (World.putObj _ D (.deferred none)))
        exact Res.leaves hK8 (Res.results_row_one rfl _ _ (w.heap.size + 1 + 1) (w.heap.size + 1 + 1 + 1) _ _ _ (.bool true) rfl rfl (Res.put_other hK8 K8.bP rfl) Try.underlying25 rfl epo_info rfl Try.underlying4 (cell_of_row _ _ 0 _ _ _ (Res.put_other hK8 K8.bO rfl)))
          ⟨_, _, _, _, _, _, _, by rw [HR1.out], by rw [HR2.out]; exact ⟨rfl, (HP.out _ hb8).p, l8.mono (fun b _ h => .inr (by have := HS4.out; omega))⟩, hb8⟩
      case stop =>
        rintro D cc pre W hD hpre ⟨rfl, hp, K3⟩ hK
        have hrt : isRet E.zones z = true := ret_front (by have := hpre.map Prod.snd; rw [show (idx E.zones).map Prod.snd = E.zones from idx_snd _] at this; exact this) hp
        have hr : retireB E z = false := by unfold retireB; rw [hrt]; simp
        have HR1 := Lib.hid hr
        have HR2 := Lib.hid (HDO.out hr)
        clear hr hrt hp
        have hb4 := K3.hb.trans (belowK_b (w := w) (Nat.le_refl _) _ D _ (.deferred none) (by omega) hK rfl rfl)
        gi_wp2
        exact Res.leaves hK (Res.results_row_one rfl _ _ (w.heap.size + 1 + 1) (w.heap.size + 1 + 1 + 1) _ _ _ (.bool false) rfl rfl (Res.put_other hK K3.bP rfl) Try.underlying25 rfl epo_info rfl Try.underlying4 (cell_of_row _ _ 0 _ _ _ (Res.put_other hK K3.bO rfl)))
          ⟨_, _, _, _, _, _, _, by rw [HR1.out], by rw [HR2.out]; exact HP.out _ hb4, hb4⟩
    · have hr : retireB E z = false := by unfold retireB; rw [decide_eq_false hz]; simp
      rw [HDO.out hr, hr]
      rw [decide_eq_false hz] at HI
      clear hr hv hglob
      refine callsIn_of_wp_marks Try.func20 rfl (hW.fn _) ?_ hW.ro
      simp only [Try.ntmps20, List.size_toArray, List.length_cons, List.length_nil, Nat.reduceAdd, Nat.reduceSub, Array.replicate_succ, Array.replicate_zero, List.push_toArray, List.append_toArray, List.nil_append, List.cons_append]
      gi_wp2_with (first
        | (gi_at_call 24; ((with_reducible refine (hW.calls HV.out).mono ?_); rintro r9 w1 ⟨rfl, h9⟩; have K1 := K0.on h9; have cz := cell_of_row _ _ 0 _ _ _ K1.bZ; clear HV h9 K0))
        | (gi_at_call 36; ((with_reducible refine (hW.calls (HI.out _)).mono ?_); rintro r9 w9 ⟨rfl, rfl⟩))
        | ((with_reducible refine Res.gi_load_lit 25 (.tmp 2) (w.heap.size) ?_ K1.bE Try.underlying25 ?_ ?_ ?_); (· rfl); (· rfl); (· exact epo_info); simp only [Act.put, List.setIfInBounds_toArray, List.set_cons_zero, List.set_cons_succ])
        | ((with_reducible refine Res.gi_store_lit 25 (.tmp 4) _ (w.heap.size + 1 + 1) ?_ K1.bP ?_ ?_ ?_ ?_ ?_ ?_); rotate_left; (· rfl); (· rfl); (· exact epo_info); (· rfl); (· simp [Value.oneCell']); simp only [Act.put])
        | ((with_reducible refine Res.gi_store_at 4 (.tmp 5) _ (w.heap.size + 1 + 1 + 1) 0 ?_ (K1.bO2 _) ?_ ?_ ?_ ?_ ?_ ?_ ?_); rotate_left; (· rfl); (· rfl); (· simp); (· kernel_rfl); (· rfl); (· rfl); simp only [Act.put, List.setIfInBounds_toArray, List.set_cons_zero]))
      have K2 := K1.fin g a k c b m d false
      exact ⟨_, Res.results_row_one rfl _ _ (w.heap.size + 1 + 1) (w.heap.size + 1 + 1 + 1) _ _ _ (.bool false) rfl rfl K2.bP Try.underlying25 rfl epo_info rfl Try.underlying4 (cell_of_row _ _ 0 _ _ _ K2.bO), ⟨_, _, _, _, _, _, _, rfl, HP.out _ K2.hb, K2.hb⟩⟩
theorem epoRetire_any (Fs : Nat → Prop) (E : Epo) (z : Int) (g : Int) (a b : Option Addr) (k c m d : Nat) (w : World) (hF : ∀ b, Fs b → b < w.heap.size) (hl : PList w Fs g a k c b m d E) (hm : m ≤ 1000) :
    Calls Try.prog 20 #[epoV g a k c b m d, .int .i64 z] w (EpoPost w Fs (retireE E z) (retireB E z)) :=
  callsIn_wide.1 (epoRetire_in wide_wide 3 (Nat.le_refl _) Fs E z g a b k c m d w hF hl hm)
end Go.Proofs.Ytbfoagfemgogkaa.Ents

/- The walks of the program's withPin, Pin, Unpin of epochs. -/
namespace Go.Proofs.Ytbfoagfemgogkaa.Ents
open Go.RowKit Plan EntMath CntMath EpoMath Rws
set_option maxHeartbeats 8000000 in
set_option maxRecDepth 20000 in
theorem epoWith_any (F : Nat → Prop) (E : Epo) (k : Nat) (v g : Int) (a b : Option Addr) (n c m d : Nat) (w : World) (hl : PList w F g a n c b m d E) (hk : k < n) (hn : n ≤ 1000) :
    Calls Try.prog 35 #[epoV g a n c b m d, .int .i64 (k : Int), .int .i64 v] w fun r w' => ∃ a' c', r = .returned (epoV g a' n c' b m d) ∧ PList w' (Plus F w.heap.size) g a' n c' b m d (pinned E (k : Int) v) ∧ Below w.heap.size w w' := by
  have hlen := hl.p.length
  obtain ⟨x, rfl, hxl, hC⟩ := hl.p.some' (by omega)
  have hA := heap2e w (epoRow g (some x) n c b m d) (epoRow 0 none 0 0 none 0 0)
  have hx0 := heap_first w (epoRow g (some x) n c b m d) (epoRow 0 none 0 0 none 0 0)
  have hr0 := heap_second w (epoRow g (some x) n c b m d) (epoRow 0 none 0 0 none 0 0)
  have hkI : (k : Int) < (n : Int) := by omega
  obtain ⟨z, hz⟩ : ∃ z, E.pins[k]? = some z := ⟨_, List.getElem?_eq_getElem (by omega)⟩
  have HZ := Lib.hid hz
  have HZL := Lib.hid (fun W (h : Below w.heap.size w W) => (show RList W (fun b => F b ∧ b < w.heap.size) b m d E.zones from hl.z.cut.on (Same.below h)))
  have HCL := Lib.hid (fun W (h : Below w.heap.size w W) => Reps.iclone_any _ E.pins x n c W (hl.p.same h) (by omega) hn)
  unfold Reps.OwnI at HCL
  have hg := hl.hg
  clear hl hC hz
  go_enter Try.func35, Try.ntmps35
  generalize hw0 : (w.alloc (epoRow g (some x) n c b m d)).alloc (epoRow 0 none 0 0 none 0 0) = w0 at *
  have hx1 := e_al hx0 (epoRow g (some x) n c b m d)
  have hr1 := e_al hr0 (epoRow g (some x) n c b m d)
  have hX1 := heap_alloc_new w0 (epoRow g (some x) n c b m d)
  have b1 := hA.alloc hA.size (epoRow g (some x) n c b m d)
  have hs0 : w.heap.size + 1 < w0.heap.size := e_lt hr0
  have hs1 : (w0.alloc (epoRow g (some x) n c b m d)).heap.size = w0.heap.size + 1 := by simp
  obtain ⟨c0, c1, c2⟩ := three_row hx1
  go_wp2_with (first
    | ((with_reducible refine Plan.load_lit 25 (.tmp 3) (w.heap.size) ?_ hx0 Try.underlying25 ?_ ?_ ?_); (· rfl); (· rfl); (· exact epo_info); simp only [Act.put, List.setIfInBounds_toArray, List.set_cons_zero, List.set_cons_succ])
    | (go_at_call 45; ((with_reducible refine (HCL.out _ b1).mono ?_); rintro r9 w3 ⟨g7, c7, rfl, hg7, hgl, own, h9⟩; have b3 := b1.trans (h9.mono b1.size); have hX3 := e_on h9 hX1 (e_lt hX1); have hr3 := e_on h9 hr1 (e_lt hr1); rw [hs1] at hg7; clear hw0 c0 c1 c2 h9 b1 HCL hx1 hr1 hX1 hx0 hr0 hA; generalize w0.heap.size = X at *))
    | ((with_reducible refine Res.store_at 22 (.tmp 12) _ (X) 1 (.slice (some ⟨g7, 0, none⟩) n c7) hX3 ?_ ?_ ?_ ?_ ?_ ?_ ?_); (· rfl); (· rfl); (· simp); (· kernel_rfl); (· rfl); (· rfl); simp only [Act.put, List.setIfInBounds_toArray, List.set_cons_zero, List.set_cons_succ]; have hr8 := (setRow_other w3 X (w.heap.size + 1) #[.int .i64 g, .slice (some ⟨g7, 0, none⟩) n c7, .slice b m d] (by omega)).trans hr3; have b8 := below_setRow b3 (show w.heap.size ≤ X by omega) #[.int .i64 g, .slice (some ⟨g7, 0, none⟩) n c7, .slice b m d]; have hX8 := setRow_heap w3 X _ #[.int .i64 g, .slice (some ⟨g7, 0, none⟩) n c7, .slice b m d] _ _ hX3; have own8 := Own.row2 own #[.int .i64 g, .slice (some ⟨g7, 0, none⟩) n c7, .slice b m d] (show X ≠ g7 by omega); obtain ⟨e0, e1, e2⟩ := three_row hX8; have q0 := (int_own_cell own8 HZ.out).1; have q1h := Lib.hid (int_own_cell own8 HZ.out).2; clear hr3 b3 hX3 own; generalize w3.setRow X #[.int .i64 g, .slice (some ⟨g7, 0, none⟩) n c7, .slice b m d] = w8 at *)
    | ((with_reducible refine Put.idx_store_int 22 3 17 (.tmp 14) (.tmp 15) (.tmp 16) g7 k .i64 v ?_ ?_ ?_ ⟨_, q0⟩ q1h.out Put.int_info1 ?_); (· go_simp); (· rfl); (· rfl); intro w9 e9; have own9 := e_owns_cell own8 k (.int .i64 v); rw [intC_set, ← e9] at own9; have hX9 := (Below.heap_setCell w8 ⟨g7, k, none⟩ (.int .i64 v) X (by simp; omega)).trans hX8; have hr9 := (Below.heap_setCell w8 ⟨g7, k, none⟩ (.int .i64 v) (w.heap.size + 1) (by simp; omega)).trans hr8; have b9 := b8.setCell (show w.heap.size ≤ (⟨g7, k, none⟩ : Addr).block from (by simp; omega)) (.int .i64 v); rw [← e9] at hX9 hr9 b9; clear own8 hX8 hr8 b8 q0 q1h e9)
    | ((with_reducible refine Plan.load_lit 25 (.tmp 7) (X) ?_ hX9 Try.underlying25 ?_ ?_ ?_); (· rfl); (· rfl); (· exact epo_info); simp only [Act.put, List.setIfInBounds_toArray, List.set_cons_zero, List.set_cons_succ])
    | ((with_reducible refine Plan.store_lit 25 (.tmp 6) _ (w.heap.size + 1) ?_ hr9 ?_ ?_ ?_ ?_ ?_ ?_); rotate_left; (· rfl); (· rfl); (· exact epo_info); (· rfl); (· simp [Value.oneCell']); simp only [Act.put]))
  obtain ⟨a9, c9, e9, l9⟩ := own_ilist (F := fun b => X < b) own9 (fun b h9 => by have h8 := Option.some.inj (show some g7 = some b from h9); omega)
  cases e9
  have PL : PList (w9.setRow (w.heap.size + 1) #[.int .i64 g, .slice (some ⟨g7, 0, none⟩) n c7, .slice b m d]) (Plus F w.heap.size) g (some ⟨g7, 0, none⟩) n c7 b m d (pinned E (k : Int) v) :=
    ⟨hg, (l9.on (Same.row (r := w.heap.size + 1) (fun h => by omega) #[.int .i64 g, .slice (some ⟨g7, 0, none⟩) n c7, .slice b m d])).mono (fun b _ h => .inr (by omega)), ((HZL.out _ b9).on (Same.row (r := w.heap.size + 1) (fun h => by have := h.2; omega) #[.int .i64 g, .slice (some ⟨g7, 0, none⟩) n c7, .slice b m d])).mono (fun b _ h => .inl h.1)⟩
  exact bodyPost_ret (results_cell_row rfl _ _ _ _ _ _ _ rfl (setRow_heap _ _ _ _ _ _ hr9) Try.underlying25 rfl epo_info) rfl ⟨_, _, rfl, PL, below_setRow b9 (show w.heap.size ≤ w.heap.size + 1 by omega) _⟩
theorem pinE_no {E : Epo} {s : Int} (h : pinB E s = false) : pinE E s = E := by unfold pinE; rw [if_neg (by rw [h]; decide)]
theorem pinE_yes {E : Epo} {s : Int} (h : pinB E s = true) : pinE E s = pinned E s E.glob := by unfold pinE; rw [if_pos h]
set_option maxHeartbeats 8000000 in
set_option maxRecDepth 20000 in
theorem epoPin_any (F : Nat → Prop) (E : Epo) (s g : Int) (a b : Option Addr) (n c m d : Nat) (w : World) (hl : PList w F g a n c b m d E) (hn : n ≤ 1000) :
    Calls Try.prog 19 #[epoV g a n c b m d, .int .i64 s] w (EpoPost w F (pinE E s) (pinB E s)) := by
  have hlen := hl.p.length
  have hA := heap2e w (epoRow g a n c b m d) (epoRow 0 none 0 0 none 0 0)
  have hx0 := heap_first w (epoRow g a n c b m d) (epoRow 0 none 0 0 none 0 0)
  have hr0 := heap_second w (epoRow g a n c b m d) (epoRow 0 none 0 0 none 0 0)
  have HEND := Lib.hid (fun W (h : Below w.heap.size w W) (cs : Array Value) => (show PList (W.setRow (w.heap.size + 1) cs) (Plus F w.heap.size) g a n c b m d E from
    ((hl.cut.on (Same.below (w' := W) h)).on (Same.row (r := w.heap.size + 1) (fun h9 => by have := h9.2; omega) cs)).mono (fun b _ h => .inl h.1)))
  have HO := Lib.hid (epoSlot_any _ E s g a b n c m d _ (hl.same hA))
  have hgl := hl.hg
  cases hin : inE E s
  · have hB : pinB E s = false := by unfold pinB; rw [hin]; rfl
    rw [hB, pinE_no hB]
    rw [hin] at HO
    clear hl hin hB
    go_enter Try.func19, Try.ntmps19
    generalize hw0 : (w.alloc (epoRow g a n c b m d)).alloc (epoRow 0 none 0 0 none 0 0) = w0 at *
    go_wp2_with (first
      | ((with_reducible refine Plan.load_lit 25 (.tmp 2) (w.heap.size) ?_ hx0 Try.underlying25 ?_ ?_ ?_); (· rfl); (· rfl); (· exact epo_info); simp only [Act.put, List.setIfInBounds_toArray, List.set_cons_zero, List.set_cons_succ])
      | (go_at_call 34; ((with_reducible refine (HO.out).mono ?_); rintro r9 w1 ⟨rfl, h9⟩; have b1 := hA.trans (h9.mono hA.size); have hx1 := e_on h9 hx0 (e_lt hx0); have hr1 := e_on h9 hr0 (e_lt hr0); obtain ⟨c0, c1, c2⟩ := three_row hx1; clear HO hx0 hr0 hA h9))
      | ((with_reducible refine Plan.load_lit 25 (.tmp 2) (w.heap.size) ?_ hx1 Try.underlying25 ?_ ?_ ?_); (· rfl); (· rfl); (· exact epo_info); simp only [Act.put, List.setIfInBounds_toArray, List.set_cons_zero, List.set_cons_succ])
      | ((with_reducible refine Plan.store_lit 25 (.tmp 4) _ (w.heap.size + 1) ?_ hr1 ?_ ?_ ?_ ?_ ?_ ?_); rotate_left; (· rfl); (· rfl); (· exact epo_info); (· rfl); (· simp [Value.oneCell']); simp only [Act.put]))
    exact bodyPost_ret (Plan.results_cell_tmp (p := 4) (q := 5) rfl _ _ _ _ _ _ _ rfl (setRow_heap _ _ _ _ _ _ hr1) Try.underlying25 rfl epo_info) rfl ⟨_, _, _, _, _, _, _, rfl, HEND.out _ b1 _, below_setRow b1 (show w.heap.size ≤ w.heap.size + 1 by omega) _⟩
  · obtain ⟨hva, hs0, hsn⟩ := in_e.1 hin
    obtain ⟨k, rfl⟩ : ∃ k : Nat, s = (k : Int) := ⟨s.toNat, by omega⟩
    have hk : k < n := by omega
    have hkI : (k : Int) < (n : Int) := by omega
    have HAT := Lib.hid (fun W (h : Below w.heap.size w W) => (hl.p.same h).at' k hk)
    rw [hin] at HO
    obtain ⟨x, p, hx, hz, -⟩ := hl.p.at' k hk
    subst hx
    have HX := Lib.hid (fun W (h : Below w.heap.size w W) => (show W.cell? (x.add k) = some (.int .i64 p) from by
      obtain ⟨x', p', h1, h2, h3⟩ := HAT.out W h
      obtain rfl := Option.some.inj h1
      rw [hz] at h2
      obtain rfl := Option.some.inj h2
      exact h3))
    have hgd : E.pins.getD ((k : Int)).toNat 0 = p := by rw [Int.toNat_natCast, List.getD_eq_getElem?_getD, hz]; rfl
    have HWI := Lib.hid (fun W (h : Below w.heap.size w W) => epoWith_any _ E k g g (some x) b n c m d W (hl.cut.on (Same.below (w' := W) h)) hk hn)
    by_cases hp : p = -1
    · have t1 : (p != -1) = false := by simpa using hp
      have hB : pinB E (k : Int) = true := by unfold pinB; rw [hgd, hin]; simp [hp]
      rw [hB, pinE_yes hB, hgl]
      clear hl hin hB hgd hva hz HAT HEND
      go_enter Try.func19, Try.ntmps19
      have hs0 : ((w.alloc (epoRow g (some x) n c b m d)).alloc (epoRow 0 none 0 0 none 0 0)).heap.size = w.heap.size + 1 + 1 := by simp
      generalize hw0 : (w.alloc (epoRow g (some x) n c b m d)).alloc (epoRow 0 none 0 0 none 0 0) = w0 at *
      go_wp2_with (first
        | ((with_reducible refine Plan.load_lit 25 (.tmp 2) (w.heap.size) ?_ hx0 Try.underlying25 ?_ ?_ ?_); (· rfl); (· rfl); (· exact epo_info); simp only [Act.put, List.setIfInBounds_toArray, List.set_cons_zero, List.set_cons_succ])
        | (go_at_call 34; ((with_reducible refine (HO.out).mono ?_); rintro r9 w1 ⟨rfl, h9⟩; have b1 := hA.trans (h9.mono hA.size); have hx1 := e_on h9 hx0 (e_lt hx0); have hr1 := e_on h9 hr0 (e_lt hr0); obtain ⟨c0, c1, c2⟩ := three_row hx1; clear HO hx0 hr0 hA h9; have hcx := HX.out _ b1))
        | ((with_reducible refine Plan.load_lit 25 (.tmp 2) (w.heap.size) ?_ hx1 Try.underlying25 ?_ ?_ ?_); (· rfl); (· rfl); (· exact epo_info); simp only [Act.put, List.setIfInBounds_toArray, List.set_cons_zero, List.set_cons_succ])
        | (go_at_call 35; ((with_reducible refine (HWI.out _ b1).mono ?_); rintro r9 w2 ⟨a', c', rfl, l2, h9⟩; have b2 := b1.trans (h9.mono b1.size); have hr2 := e_on h9 hr1 (e_lt hr1); have hq := e_lt hr1; have hq1 := b1.size; clear HWI hr1 h9))
        | ((with_reducible refine Plan.store_lit 25 (.tmp 4) _ (w.heap.size + 1) ?_ hr2 ?_ ?_ ?_ ?_ ?_ ?_); rotate_left; (· rfl); (· rfl); (· exact epo_info); (· rfl); (· simp [Value.oneCell']); simp only [Act.put]))
      have D1 := (l2.on (Same.row (r := w.heap.size + 1) (fun h => by rcases h with h | h; (· have := h.2; omega); (· omega)) #[.int .i64 g, .slice a' n c', .slice b m d])).mono (G := Plus F w.heap.size) (fun b _ h => by rcases h with h | h; (· exact .inl h.1); (· exact .inr (by omega)))
      exact bodyPost_ret (Plan.results_cell_tmp (p := 4) (q := 5) rfl _ _ _ _ _ _ _ rfl (setRow_heap _ _ _ _ _ _ hr2) Try.underlying25 rfl epo_info) rfl ⟨_, _, _, _, _, _, _, rfl, D1, below_setRow b2 (show w.heap.size ≤ w.heap.size + 1 by omega) _⟩
    · have t1 : (p != -1) = true := by simpa using hp
      have hB : pinB E (k : Int) = false := by unfold pinB; rw [hgd]; simp [hp]
      rw [hB, pinE_no hB]
      clear hl hin hB hgd HWI hva hz HAT
      go_enter Try.func19, Try.ntmps19
      generalize hw0 : (w.alloc (epoRow g (some x) n c b m d)).alloc (epoRow 0 none 0 0 none 0 0) = w0 at *
      go_wp2_with (first
        | ((with_reducible refine Plan.load_lit 25 (.tmp 2) (w.heap.size) ?_ hx0 Try.underlying25 ?_ ?_ ?_); (· rfl); (· rfl); (· exact epo_info); simp only [Act.put, List.setIfInBounds_toArray, List.set_cons_zero, List.set_cons_succ])
        | (go_at_call 34; ((with_reducible refine (HO.out).mono ?_); rintro r9 w1 ⟨rfl, h9⟩; have b1 := hA.trans (h9.mono hA.size); have hx1 := e_on h9 hx0 (e_lt hx0); have hr1 := e_on h9 hr0 (e_lt hr0); obtain ⟨c0, c1, c2⟩ := three_row hx1; clear HO hx0 hr0 hA h9; have hcx := HX.out _ b1))
        | ((with_reducible refine Plan.load_lit 25 (.tmp 2) (w.heap.size) ?_ hx1 Try.underlying25 ?_ ?_ ?_); (· rfl); (· rfl); (· exact epo_info); simp only [Act.put, List.setIfInBounds_toArray, List.set_cons_zero, List.set_cons_succ])
        | ((with_reducible refine Plan.store_lit 25 (.tmp 4) _ (w.heap.size + 1) ?_ hr1 ?_ ?_ ?_ ?_ ?_ ?_); rotate_left; (· rfl); (· rfl); (· exact epo_info); (· rfl); (· simp [Value.oneCell']); simp only [Act.put]))
      exact bodyPost_ret (Plan.results_cell_tmp (p := 4) (q := 5) rfl _ _ _ _ _ _ _ rfl (setRow_heap _ _ _ _ _ _ hr1) Try.underlying25 rfl epo_info) rfl ⟨_, _, _, _, _, _, _, rfl, HEND.out _ b1 _, below_setRow b1 (show w.heap.size ≤ w.heap.size + 1 by omega) _⟩
theorem unpinE_no {E : Epo} {s : Int} (h : unpinB E s = false) : unpinE E s = E := by unfold unpinE; rw [if_neg (by rw [h]; decide)]
theorem unpinE_yes {E : Epo} {s : Int} (h : unpinB E s = true) : unpinE E s = pinned E s (-1) := by unfold unpinE; rw [if_pos h]
set_option maxHeartbeats 8000000 in
set_option maxRecDepth 20000 in
theorem epoUnpin_any (F : Nat → Prop) (E : Epo) (s g : Int) (a b : Option Addr) (n c m d : Nat) (w : World) (hl : PList w F g a n c b m d E) (hn : n ≤ 1000) :
    Calls Try.prog 18 #[epoV g a n c b m d, .int .i64 s] w (EpoPost w F (unpinE E s) (unpinB E s)) := by
  have hlen := hl.p.length
  have hA := heap2e w (epoRow g a n c b m d) (epoRow 0 none 0 0 none 0 0)
  have hx0 := heap_first w (epoRow g a n c b m d) (epoRow 0 none 0 0 none 0 0)
  have hr0 := heap_second w (epoRow g a n c b m d) (epoRow 0 none 0 0 none 0 0)
  have HEND := Lib.hid (fun W (h : Below w.heap.size w W) (cs : Array Value) => (show PList (W.setRow (w.heap.size + 1) cs) (Plus F w.heap.size) g a n c b m d E from
    ((hl.cut.on (Same.below (w' := W) h)).on (Same.row (r := w.heap.size + 1) (fun h9 => by have := h9.2; omega) cs)).mono (fun b _ h => .inl h.1)))
  have HO := Lib.hid (epoSlot_any _ E s g a b n c m d _ (hl.same hA))
  have hgl := hl.hg
  cases hin : inE E s
  · have hB : unpinB E s = false := by unfold unpinB; rw [hin]; rfl
    rw [hB, unpinE_no hB]
    rw [hin] at HO
    clear hl hin hB
    go_enter Try.func18, Try.ntmps18
    generalize hw0 : (w.alloc (epoRow g a n c b m d)).alloc (epoRow 0 none 0 0 none 0 0) = w0 at *
    go_wp2_with (first
      | ((with_reducible refine Plan.load_lit 25 (.tmp 2) (w.heap.size) ?_ hx0 Try.underlying25 ?_ ?_ ?_); (· rfl); (· rfl); (· exact epo_info); simp only [Act.put, List.setIfInBounds_toArray, List.set_cons_zero, List.set_cons_succ])
      | (go_at_call 34; ((with_reducible refine (HO.out).mono ?_); rintro r9 w1 ⟨rfl, h9⟩; have b1 := hA.trans (h9.mono hA.size); have hx1 := e_on h9 hx0 (e_lt hx0); have hr1 := e_on h9 hr0 (e_lt hr0); obtain ⟨c0, c1, c2⟩ := three_row hx1; clear HO hx0 hr0 hA h9))
      | ((with_reducible refine Plan.load_lit 25 (.tmp 2) (w.heap.size) ?_ hx1 Try.underlying25 ?_ ?_ ?_); (· rfl); (· rfl); (· exact epo_info); simp only [Act.put, List.setIfInBounds_toArray, List.set_cons_zero, List.set_cons_succ])
      | ((with_reducible refine Plan.store_lit 25 (.tmp 4) _ (w.heap.size + 1) ?_ hr1 ?_ ?_ ?_ ?_ ?_ ?_); rotate_left; (· rfl); (· rfl); (· exact epo_info); (· rfl); (· simp [Value.oneCell']); simp only [Act.put]))
    exact bodyPost_ret (Plan.results_cell_tmp (p := 4) (q := 5) rfl _ _ _ _ _ _ _ rfl (setRow_heap _ _ _ _ _ _ hr1) Try.underlying25 rfl epo_info) rfl ⟨_, _, _, _, _, _, _, rfl, HEND.out _ b1 _, below_setRow b1 (show w.heap.size ≤ w.heap.size + 1 by omega) _⟩
  · obtain ⟨hva, hs0, hsn⟩ := in_e.1 hin
    obtain ⟨k, rfl⟩ : ∃ k : Nat, s = (k : Int) := ⟨s.toNat, by omega⟩
    have hk : k < n := by omega
    have hkI : (k : Int) < (n : Int) := by omega
    have HAT := Lib.hid (fun W (h : Below w.heap.size w W) => (hl.p.same h).at' k hk)
    rw [hin] at HO
    obtain ⟨x, p, hx, hz, -⟩ := hl.p.at' k hk
    subst hx
    have HX := Lib.hid (fun W (h : Below w.heap.size w W) => (show W.cell? (x.add k) = some (.int .i64 p) from by
      obtain ⟨x', p', h1, h2, h3⟩ := HAT.out W h
      obtain rfl := Option.some.inj h1
      rw [hz] at h2
      obtain rfl := Option.some.inj h2
      exact h3))
    have hgd : E.pins.getD ((k : Int)).toNat 0 = p := by rw [Int.toNat_natCast, List.getD_eq_getElem?_getD, hz]; rfl
    have HWI := Lib.hid (fun W (h : Below w.heap.size w W) => epoWith_any _ E k (-1) g (some x) b n c m d W (hl.cut.on (Same.below (w' := W) h)) hk hn)
    by_cases hp : p = -1
    · have t1 : (p == -1) = true := by simpa using hp
      have hB : unpinB E (k : Int) = false := by unfold unpinB; rw [hgd]; simp [hp]
      rw [hB, unpinE_no hB]
      clear hl hin hB hgd HWI hva hz HAT
      go_enter Try.func18, Try.ntmps18
      generalize hw0 : (w.alloc (epoRow g (some x) n c b m d)).alloc (epoRow 0 none 0 0 none 0 0) = w0 at *
      go_wp2_with (first
        | ((with_reducible refine Plan.load_lit 25 (.tmp 2) (w.heap.size) ?_ hx0 Try.underlying25 ?_ ?_ ?_); (· rfl); (· rfl); (· exact epo_info); simp only [Act.put, List.setIfInBounds_toArray, List.set_cons_zero, List.set_cons_succ])
        | (go_at_call 34; ((with_reducible refine (HO.out).mono ?_); rintro r9 w1 ⟨rfl, h9⟩; have b1 := hA.trans (h9.mono hA.size); have hx1 := e_on h9 hx0 (e_lt hx0); have hr1 := e_on h9 hr0 (e_lt hr0); obtain ⟨c0, c1, c2⟩ := three_row hx1; clear HO hx0 hr0 hA h9; have hcx := HX.out _ b1))
        | ((with_reducible refine Plan.load_lit 25 (.tmp 2) (w.heap.size) ?_ hx1 Try.underlying25 ?_ ?_ ?_); (· rfl); (· rfl); (· exact epo_info); simp only [Act.put, List.setIfInBounds_toArray, List.set_cons_zero, List.set_cons_succ])
        | ((with_reducible refine Plan.store_lit 25 (.tmp 4) _ (w.heap.size + 1) ?_ hr1 ?_ ?_ ?_ ?_ ?_ ?_); rotate_left; (· rfl); (· rfl); (· exact epo_info); (· rfl); (· simp [Value.oneCell']); simp only [Act.put]))
      exact bodyPost_ret (Plan.results_cell_tmp (p := 4) (q := 5) rfl _ _ _ _ _ _ _ rfl (setRow_heap _ _ _ _ _ _ hr1) Try.underlying25 rfl epo_info) rfl ⟨_, _, _, _, _, _, _, rfl, HEND.out _ b1 _, below_setRow b1 (show w.heap.size ≤ w.heap.size + 1 by omega) _⟩
    · have t1 : (p == -1) = false := by simpa using hp
      have hB : unpinB E (k : Int) = true := by unfold unpinB; rw [hgd, hin]; simp [hp]
      rw [hB, unpinE_yes hB]
      clear hl hin hB hgd hva hz HAT HEND
      go_enter Try.func18, Try.ntmps18
      have hs0 : ((w.alloc (epoRow g (some x) n c b m d)).alloc (epoRow 0 none 0 0 none 0 0)).heap.size = w.heap.size + 1 + 1 := by simp
      generalize hw0 : (w.alloc (epoRow g (some x) n c b m d)).alloc (epoRow 0 none 0 0 none 0 0) = w0 at *
      go_wp2_with (first
        | ((with_reducible refine Plan.load_lit 25 (.tmp 2) (w.heap.size) ?_ hx0 Try.underlying25 ?_ ?_ ?_); (· rfl); (· rfl); (· exact epo_info); simp only [Act.put, List.setIfInBounds_toArray, List.set_cons_zero, List.set_cons_succ])
        | (go_at_call 34; ((with_reducible refine (HO.out).mono ?_); rintro r9 w1 ⟨rfl, h9⟩; have b1 := hA.trans (h9.mono hA.size); have hx1 := e_on h9 hx0 (e_lt hx0); have hr1 := e_on h9 hr0 (e_lt hr0); obtain ⟨c0, c1, c2⟩ := three_row hx1; clear HO hx0 hr0 hA h9; have hcx := HX.out _ b1))
        | ((with_reducible refine Plan.load_lit 25 (.tmp 2) (w.heap.size) ?_ hx1 Try.underlying25 ?_ ?_ ?_); (· rfl); (· rfl); (· exact epo_info); simp only [Act.put, List.setIfInBounds_toArray, List.set_cons_zero, List.set_cons_succ])
        | (go_at_call 35; ((with_reducible refine (HWI.out _ b1).mono ?_); rintro r9 w2 ⟨a', c', rfl, l2, h9⟩; have b2 := b1.trans (h9.mono b1.size); have hr2 := e_on h9 hr1 (e_lt hr1); have hq := e_lt hr1; have hq1 := b1.size; clear HWI hr1 h9))
        | ((with_reducible refine Plan.store_lit 25 (.tmp 4) _ (w.heap.size + 1) ?_ hr2 ?_ ?_ ?_ ?_ ?_ ?_); rotate_left; (· rfl); (· rfl); (· exact epo_info); (· rfl); (· simp [Value.oneCell']); simp only [Act.put]))
      have D1 := (l2.on (Same.row (r := w.heap.size + 1) (fun h => by rcases h with h | h; (· have := h.2; omega); (· omega)) #[.int .i64 g, .slice a' n c', .slice b m d])).mono (G := Plus F w.heap.size) (fun b _ h => by rcases h with h | h; (· exact .inl h.1); (· exact .inr (by omega)))
      exact bodyPost_ret (Plan.results_cell_tmp (p := 4) (q := 5) rfl _ _ _ _ _ _ _ rfl (setRow_heap _ _ _ _ _ _ hr2) Try.underlying25 rfl epo_info) rfl ⟨_, _, _, _, _, _, _, rfl, D1, below_setRow b2 (show w.heap.size ≤ w.heap.size + 1 by omega) _⟩
end Go.Proofs.Ytbfoagfemgogkaa.Ents

/- The walks of the program's Ready, Forget, Advance, New of epochs: the program's epochs do what the contracts of the document's own say. -/
namespace Go.Proofs.Ytbfoagfemgogkaa.Ents
open Go.RowKit Plan EntMath CntMath EpoMath Rws
theorem epoReady_no (F : Nat → Prop) (E : Epo) (g : Int) (a b : Option Addr) (n c m d : Nat) (w : World) (hF : ∀ b, F b → b < w.heap.size) (hl : PList w F g a n c b m d E) (h : readyR E = none) :
    Calls Try.prog 39 #[epoV g a n c b m d] w fun r w' => r = .returned (.tuple #[.int .i64 0, .bool false]) ∧ Below w.heap.size w w' :=
  (epoReady_any F E g a b n c m d w hF hl).mono fun r w' hr => by
    obtain ⟨⟨j, x, h1, h2, h3, h4⟩ | ⟨h1, h2⟩, hb⟩ := hr
    · rw [h] at h3; cases h3
    · exact ⟨h1, hb⟩
theorem epoReady_yes (F : Nat → Prop) (E : Epo) (g : Int) (a b : Option Addr) (n c m d : Nat) (w : World) (hF : ∀ b, F b → b < w.heap.size) (hl : PList w F g a n c b m d E) (y : Ret) (h : readyR E = some y) :
    Calls Try.prog 39 #[epoV g a n c b m d] w fun r w' => ∃ j : Nat, r = .returned (.tuple #[.int .i64 (j : Int), .bool true]) ∧ E.zones[j]? = some y ∧ Below w.heap.size w w' :=
  (epoReady_any F E g a b n c m d w hF hl).mono fun r w' hr => by
    obtain ⟨⟨j, x, h1, h2, h3, h4⟩ | ⟨h1, h2⟩, hb⟩ := hr
    · rw [h] at h3; cases h3; exact ⟨j, h1, h2, hb⟩
    · rw [h] at h2; cases h2
theorem ready_valid {E : Epo} {y : Ret} (h : readyR E = some y) : validE E = true := by
  unfold readyR at h
  split at h
  · assumption
  · cases h
theorem RList.at2 {w W : World} {F : Nat → Prop} {b : Option Addr} {m d : Nat} {Z : List Ret} (hl : RList w F b m d Z) (hb : Below w.heap.size w W) {j : Nat} {y : Ret} (hj : Z[j]? = some y) : ∃ x, b = some x ∧ j < m ∧ RetAt W x j y := by
  have hlen := hl.length
  have hjm : j < m := by have := (List.getElem?_eq_some_iff.1 hj).1; omega
  obtain ⟨x, r, h1, h2, h3⟩ := ret_at (hl.same hb) j hjm
  rw [hj] at h2
  obtain rfl := Option.some.inj h2
  exact ⟨x, h1, hjm, h3⟩
set_option maxHeartbeats 8000000 in
set_option maxRecDepth 20000 in
theorem epoReadyZ_any (F : Nat → Prop) (E : Epo) (g : Int) (a b : Option Addr) (n c m d : Nat) (w : World) (hl : PList w F g a n c b m d E) :
    Calls Try.prog 22 #[epoV g a n c b m d] w (RdyPost w E) := by
  have hA := (Below.refl w.heap.size w).alloc (Nat.le_refl _) (epoRow g a n c b m d)
  have hx0 := heap_alloc_new w (epoRow g a n c b m d)
  have HZ := Lib.hid (fun W (h : Below w.heap.size w W) j y (hj : E.zones[j]? = some y) => hl.z.at2 h hj)
  have hcp := hl.z.cap
  unfold maxLen at hcp
  unfold RdyPost readyZ readyB
  cases hq : readyR E with
  | none =>
    have HR := Lib.hid (epoReady_no _ E g a b n c m d _ (fun b hb => Nat.lt_of_lt_of_le hb hA.size) (hl.same hA) hq)
    clear hl
    go_enter Try.func22, Try.ntmps22
    generalize hw0 : w.alloc (epoRow g a n c b m d) = w0 at *
    go_wp2_with (first
      | ((with_reducible refine Plan.load_lit 25 (.tmp 1) (w.heap.size) ?_ hx0 Try.underlying25 ?_ ?_ ?_); (· rfl); (· rfl); (· exact epo_info); simp only [Act.put, List.setIfInBounds_toArray, List.set_cons_zero, List.set_cons_succ])
      | (go_at_call 39; ((with_reducible refine (HR.out).mono ?_); rintro r9 w1 ⟨rfl, h9⟩; have b1 := hA.trans (h9.mono hA.size))))
    go_ret2
    exact ⟨rfl, b1⟩
  | some y =>
    have HR := Lib.hid (epoReady_yes _ E g a b n c m d _ (fun b hb => Nat.lt_of_lt_of_le hb hA.size) (hl.same hA) y hq)
    clear hl
    go_enter Try.func22, Try.ntmps22
    generalize hw0 : w.alloc (epoRow g a n c b m d) = w0 at *
    go_wp2_with (first
      | ((with_reducible refine Plan.load_lit 25 (.tmp 1) (w.heap.size) ?_ hx0 Try.underlying25 ?_ ?_ ?_); (· rfl); (· rfl); (· exact epo_info); simp only [Act.put, List.setIfInBounds_toArray, List.set_cons_zero, List.set_cons_succ])
      | (go_at_call 39; ((with_reducible refine (HR.out).mono ?_); rintro r9 w1 ⟨j, rfl, hj, h9⟩; have b1 := hA.trans (h9.mono hA.size); have hx1 := e_on h9 hx0 (e_lt hx0); obtain ⟨c0, c1, c2⟩ := three_row hx1; obtain ⟨x, rfl, hjm, d0, d1⟩ := HZ.out _ b1 j y hj; have hjI : (j : Int) < (m : Int) := (by omega); clear HR hx0 hw0 h9 hj)))
    go_ret2
    exact ⟨rfl, b1⟩
theorem RList.dropped {w : World} {F : Nat → Prop} {x : Addr} {m d : Nat} {Z : List Ret} (h : RList w F (some x) m d Z) (k : Nat) (hk : k ≤ m) (h0 : 0 < m) : RList w F (if d = k then some x else some (x.add (k * 2))) (m - k) (d - k) (Z.drop k) := by
  have hlen := h.length
  have hc := h.cap
  by_cases hd : d = k
  · rw [if_pos hd]
    exact .inl ⟨trivial, by omega, by omega, List.drop_of_length_le (by omega)⟩
  · rw [if_neg hd]
    exact TList.back rrOk h k hk h0
theorem forgetE_no {E : Epo} {z : Int} (h : forgetB E z = false) : forgetE E z = E := by unfold forgetE; rw [if_neg (by rw [h]; decide)]
theorem cat_two {w : World} {F G : Nat → Prop} {x : Nat} {a b : Option Addr} {n c m d : Nat} {L M : List Ret} {t : TypeId} {fr : Nat × Nat} (h0 : RList w F a n c L) (h1 : RList w G b m d M) (hx : w.heap[x]? = some (.cells #[.slice a n c, .slice b m d] t fr)) : RListsAt w (fun _ => True) ⟨x, 0, none⟩ [L, M] :=
  ⟨fun i L' hi => by
    rw [Addr.add_lit, Nat.zero_add]
    match i, hi with
    | 0, hi => obtain rfl := Option.some.inj hi; exact ⟨_, _, _, cell_of_row _ _ 0 _ _ _ hx, h0.mono fun _ _ _ => trivial⟩
    | 1, hi => obtain rfl := Option.some.inj hi; exact ⟨_, _, _, cell_of_row _ _ 1 _ _ _ hx, h1.mono fun _ _ _ => trivial⟩⟩
set_option maxHeartbeats 8000000 in
set_option maxRecDepth 20000 in
theorem epoForget_any (F : Nat → Prop) (E : Epo) (z g : Int) (a b : Option Addr) (n c m d : Nat) (w : World) (hl : PList w F g a n c b m d E) (hm : m ≤ 1000) :
    Calls Try.prog 23 #[epoV g a n c b m d, .int .i64 z] w (EpoPost w F (forgetE E z) (forgetB E z)) := by
  have hA := heap2e w (epoRow g a n c b m d) (epoRow 0 none 0 0 none 0 0)
  have hx0 := heap_first w (epoRow g a n c b m d) (epoRow 0 none 0 0 none 0 0)
  have hr0 := heap_second w (epoRow g a n c b m d) (epoRow 0 none 0 0 none 0 0)
  have HEND := Lib.hid (fun W (h : Below w.heap.size w W) (cs : Array Value) => (show PList (W.setRow (w.heap.size + 1) cs) (Plus F w.heap.size) g a n c b m d E from
    ((hl.cut.on (Same.below (w' := W) h)).on (Same.row (r := w.heap.size + 1) (fun h9 => by have := h9.2; omega) cs)).mono (fun b _ h => .inl h.1)))
  have HZ := Lib.hid (fun W (h : Below w.heap.size w W) j y (hj : E.zones[j]? = some y) => hl.z.at2 h hj)
  have hcp := hl.z.cap
  unfold maxLen at hcp
  have hgl := hl.hg
  have hlen := hl.z.length
  cases hq : readyR E with
  | none =>
    have hB : forgetB E z = false := by unfold forgetB readyB; rw [hq]; rfl
    rw [hB, forgetE_no hB]
    have HR := Lib.hid (epoReady_no _ E g a b n c m d _ (fun b hb => Nat.lt_of_lt_of_le hb hA.size) (hl.same hA) hq)
    clear hl hB hq
    go_enter Try.func23, Try.ntmps23
    generalize hw0 : (w.alloc (epoRow g a n c b m d)).alloc (epoRow 0 none 0 0 none 0 0) = w0 at *
    go_wp2_with (first
      | ((with_reducible refine Plan.load_lit 25 (.tmp 2) (w.heap.size) ?_ hx0 Try.underlying25 ?_ ?_ ?_); (· rfl); (· rfl); (· exact epo_info); simp only [Act.put, List.setIfInBounds_toArray, List.set_cons_zero, List.set_cons_succ])
      | (go_at_call 39; ((with_reducible refine (HR.out).mono ?_); rintro r9 w1 ⟨rfl, h9⟩; have b1 := hA.trans (h9.mono hA.size); have hx1 := e_on h9 hx0 (e_lt hx0); have hr1 := e_on h9 hr0 (e_lt hr0); clear HR hx0 hr0 hA h9 hw0))
      | ((with_reducible refine Plan.load_lit 25 (.tmp 2) (w.heap.size) ?_ hx1 Try.underlying25 ?_ ?_ ?_); (· rfl); (· rfl); (· exact epo_info); simp only [Act.put, List.setIfInBounds_toArray, List.set_cons_zero, List.set_cons_succ])
      | ((with_reducible refine Plan.store_lit 25 (.tmp 4) _ (w.heap.size + 1) ?_ hr1 ?_ ?_ ?_ ?_ ?_ ?_); rotate_left; (· rfl); (· rfl); (· exact epo_info); (· rfl); (· simp [Value.oneCell']); simp only [Act.put]))
    exact bodyPost_ret (Plan.results_cell_tmp (p := 4) (q := 5) rfl _ _ _ _ _ _ _ rfl (setRow_heap _ _ _ _ _ _ hr1) Try.underlying25 rfl epo_info) rfl ⟨_, _, _, _, _, _, _, rfl, HEND.out _ b1 _, below_setRow b1 (show w.heap.size ≤ w.heap.size + 1 by omega) _⟩
  | some y =>
    have HR := Lib.hid (epoReady_yes _ E g a b n c m d _ (fun b hb => Nat.lt_of_lt_of_le hb hA.size) (hl.same hA) y hq)
    by_cases hz : y.zone = z
    · have hv := ready_valid hq
      have hB : forgetB E z = true := by unfold forgetB readyB readyZ; rw [hq]; exact decide_eq_true hz
      have HE := Lib.hid (fun (j : Nat) (hj : E.zones[j]? = some y) => (show forgetE E z = ⟨g, E.pins, E.zones.take j ++ E.zones.drop (j + 1)⟩ from by
        unfold forgetE; rw [if_pos hB, ← hz, forget_at hv hj, hgl]))
      have HLZ := Lib.hid (fun W (h : Below w.heap.size w W) => hl.z.same h)
      have HLP := Lib.hid (fun W (h : Below w.heap.size w W) (cs : Array Value) => (HEND.out W h cs).p)
      rw [hB]
      have t1 : (y.zone != z) = false := by simpa using hz
      clear hl hB hq HEND
      go_enter Try.func23, Try.ntmps23
      generalize hw0 : (w.alloc (epoRow g a n c b m d)).alloc (epoRow 0 none 0 0 none 0 0) = w0 at *
      go_wp2_with (first
        | ((with_reducible refine Plan.load_lit 25 (.tmp 2) (w.heap.size) ?_ hx0 Try.underlying25 ?_ ?_ ?_); (· rfl); (· rfl); (· exact epo_info); simp only [Act.put, List.setIfInBounds_toArray, List.set_cons_zero, List.set_cons_succ])
        | (go_at_call 39; ((with_reducible refine (HR.out).mono ?_); rintro r9 w1 ⟨j, rfl, hj, h9⟩; have b1 := hA.trans (h9.mono hA.size); have hx1 := e_on h9 hx0 (e_lt hx0); have hr1 := e_on h9 hr0 (e_lt hr0); obtain ⟨c0, c1, c2⟩ := three_row hx1; obtain ⟨x, rfl, hjm, d0, d1⟩ := HZ.out _ b1 j y hj; have hjI : (j : Int) < (m : Int) := (by omega); have HJ := Lib.hid (HE.out j hj); clear HE HR hx0 hr0 hA h9 hw0 hj HZ))
        | ((with_reducible refine Plan.load_lit 25 (.tmp 2) (w.heap.size) ?_ hx1 Try.underlying25 ?_ ?_ ?_); (· rfl); (· rfl); (· exact epo_info); simp only [Act.put, List.setIfInBounds_toArray, List.set_cons_zero, List.set_cons_succ]))
      obtain ⟨k, hk⟩ : ∃ k : Nat, k = j + 1 := ⟨_, rfl⟩
      have hwj : IntKind.i64.wrap ((j : Int) + 1) = (k : Int) := by rw [IntWalk.i64_in _ (by omega)]; omega
      have hkm : (k : Int) ≤ (m : Int) := by omega
      have hkmN : k ≤ m := by omega
      have hmd : (m : Int) ≤ (d : Int) := by omega
      have hjd : (j : Int) ≤ (d : Int) := by omega
      have HK := Lib.hid hk
      clear hk c0 c1 c2 d0 d1
      have hX2 := heap_alloc_new w1 (epoRow g a n c (some x) m d)
      have hx2 := e_al hx1 (epoRow g a n c (some x) m d)
      have hr2 := e_al hr1 (epoRow g a n c (some x) m d)
      have b2 := b1.alloc b1.size (epoRow g a n c (some x) m d)
      have hs2 : (w1.alloc (epoRow g a n c (some x) m d)).heap.size = w1.heap.size + 1 := by simp
      have hq1 := e_lt hr1
      clear hx1 hr1
      generalize hW2 : w1.alloc (epoRow g a n c (some x) m d) = w2 at *
      generalize w1.heap.size = X at *
      have hx3 : w2.drew.heap[w.heap.size]? = some (epoRow g a n c (some x) m d) := hx2
      have hX3 : w2.drew.heap[X]? = some (epoRow g a n c (some x) m d) := hX2
      have hr3 : w2.drew.heap[w.heap.size + 1]? = some (epoRow 0 none 0 0 none 0 0) := hr2
      have hx4 := e_al hx3 (.cells #[.slice (some x) j d, .slice (if d = k then some x else some (x.add (k * 2))) (m - k) (d - k)] 23)
      have hX4 := e_al hX3 (.cells #[.slice (some x) j d, .slice (if d = k then some x else some (x.add (k * 2))) (m - k) (d - k)] 23)
      have hr4 := e_al hr3 (.cells #[.slice (some x) j d, .slice (if d = k then some x else some (x.add (k * 2))) (m - k) (d - k)] 23)
      have hl4 := heap_alloc_new w2.drew (.cells #[.slice (some x) j d, .slice (if d = k then some x else some (x.add (k * 2))) (m - k) (d - k)] 23)
      have b4 := b2.drew.alloc b2.size (.cells #[.slice (some x) j d, .slice (if d = k then some x else some (x.add (k * 2))) (m - k) (d - k)] 23)
      have hs4 : (w2.drew.alloc (.cells #[.slice (some x) j d, .slice (if d = k then some x else some (x.add (k * 2))) (m - k) (d - k)] 23)).heap.size = X + 2 := by show (w2.heap.push _).size = _; rw [Array.size_push, hs2]
      have L4 := HLZ.out _ b4
      have HCC := rconcat_any _ _ _ 2 2 _ (cat_two (L4.front rrOk j (by omega)) (RList.dropped L4 k hkmN (by omega)) hl4) rfl (by decide) (by simp; omega)
      rw [show [E.zones.take j, E.zones.drop k].flatten = E.zones.take j ++ E.zones.drop (j + 1) by rw [← HK.out]; simp, show E.zones.take j ++ E.zones.drop (j + 1) = (forgetE E z).zones by rw [HJ.out]] at HCC
      refine Plan.start (fun W => W.cell? ⟨w.heap.size, 0, none⟩ = some (.int .i64 g) ∧ W.cell? ⟨w.heap.size, 1, none⟩ = some (.slice a n c) ∧ W.cell? ⟨w.heap.size, 2, none⟩ = some (.slice (some x) m d)) [(0, true), (1, true), (2, true), (3, true), (4, true), (5, true), (6, true), (7, true), (8, true), (9, false), (10, false), (11, true), (12, false)] (by kernel_rfl) (by kernel_rfl) (by kernel_rfl) (by kernel_rfl) (three_row hx3) ?_
      simp only [List.map_cons, List.map_nil, List.getElem?_toArray, List.getElem?_cons_zero, List.getElem?_cons_succ]
      repeat (first | (refine Plan.take ?_ (by rfl) ?_ ?_; rotate_left; (· rintro w9 ⟨c0, c1, c2⟩; go_simp; (try rw [if_neg (by omega)]); all_goals (with_reducible rfl)); simp only [Act.put, List.setIfInBounds_toArray, List.set_cons_zero, List.set_cons_succ]) | (refine Plan.pass (by rfl) ?_; simp only [Act.put, List.setIfInBounds_toArray, List.set_cons_zero, List.set_cons_succ]))
      refine Plan.make (by rfl) (.slice (some ⟨w2.heap.size, 0, none⟩) 2 2) (w2.drew.alloc (.cells #[.slice (some x) j d, .slice (if d = k then some x else some (x.add (k * 2))) (m - k) (d - k)] 23)) ?_ (three_row hx4) ?_
      · go_simp
      simp only [Act.put, List.setIfInBounds_toArray, List.set_cons_zero, List.set_cons_succ]
      refine Plan.call (by rfl) 38 _ ?_ HCC ?_
      · go_simp
      rintro e9 w5 ⟨a9, n9, c9, rfl, l9, h9⟩
      have hx5 := e_on h9 hx4 (e_lt hx4)
      have hX5 := e_on h9 hX4 (e_lt hX4)
      have hr5 := e_on h9 hr4 (e_lt hr4)
      have b5 := b4.trans (h9.mono b4.size)
      refine ⟨_, rfl, three_row hx5, ?_⟩
      simp only [Act.put, List.setIfInBounds_toArray, List.set_cons_zero, List.set_cons_succ]
      repeat (first | (refine Plan.take ?_ (by rfl) ?_ ?_; rotate_left; (· rintro w9 ⟨c0, c1, c2⟩; go_simp; (try rw [if_neg (by omega)]); all_goals (with_reducible rfl)); simp only [Act.put, List.setIfInBounds_toArray, List.set_cons_zero, List.set_cons_succ]) | (refine Plan.pass (by rfl) ?_; simp only [Act.put, List.setIfInBounds_toArray, List.set_cons_zero, List.set_cons_succ]))
      refine Plan.carry (by rfl) (Res.wp_store_at 23 (.tmp 39) (.tmp 38) rfl X 2 (.slice a9 n9 c9) hX5 (by rfl) (by rfl) (by simp) (by kernel_rfl) rfl rfl ⟨three_row ((setRow_other _ X w.heap.size _ (by omega)).trans hx5), ?_⟩)
      simp only [Act.put, List.setIfInBounds_toArray, List.set_cons_zero, List.set_cons_succ]
      repeat (first | (refine Plan.take ?_ (by rfl) ?_ ?_; rotate_left; (· rintro w9 ⟨c0, c1, c2⟩; go_simp; (try rw [if_neg (by omega)]); all_goals (with_reducible rfl)); simp only [Act.put, List.setIfInBounds_toArray, List.set_cons_zero, List.set_cons_succ]) | (refine Plan.pass (by rfl) ?_; simp only [Act.put, List.setIfInBounds_toArray, List.set_cons_zero, List.set_cons_succ]))
      refine Plan.ends ?_
      have hX6 := setRow_heap w5 X _ #[.int .i64 g, .slice a n c, .slice a9 n9 c9] _ _ hX5
      have hr6 := (setRow_other w5 X (w.heap.size + 1) #[.int .i64 g, .slice a n c, .slice a9 n9 c9] (by omega)).trans hr5
      have b6 := below_setRow b5 (show w.heap.size ≤ X by omega) #[.int .i64 g, .slice a n c, .slice a9 n9 c9]
      have l6 := l9.on (Same.row (r := X) (fun h => by rw [hs4] at h; omega) #[.int .i64 g, .slice a n c, .slice a9 n9 c9])
      have hs4' := Lib.hid hs4
      clear hx2 hx3 hx4 hx5 hX2 hX3 hX4 hX5 hr2 hr3 hr4 hr5 hl4 l9 HCC L4 h9 b2 b4 b5 hW2 hs2 hs4
      generalize w5.setRow X #[.int .i64 g, .slice a n c, .slice a9 n9 c9] = w6 at *
      have PZ := Lib.hid ((l6.on (Same.row (r := w.heap.size + 1) (fun h => by rw [hs4'.out] at h; omega) #[.int .i64 g, .slice a n c, .slice a9 n9 c9])).mono (G := Plus F w.heap.size) (fun b _ h => .inr (by rw [hs4'.out] at h; omega)))
      have PP := Lib.hid (HLP.out _ b6 #[.int .i64 g, .slice a n c, .slice a9 n9 c9])
      clear l6 hs4' HLP HLZ
      go_wp2_with (first
        | ((with_reducible refine Plan.load_lit 25 (.tmp 8) (X) ?_ hX6 Try.underlying25 ?_ ?_ ?_); (· rfl); (· rfl); (· exact epo_info); simp only [Act.put, List.setIfInBounds_toArray, List.set_cons_zero, List.set_cons_succ])
        | ((with_reducible refine Plan.store_lit 25 (.tmp 4) _ (w.heap.size + 1) ?_ hr6 ?_ ?_ ?_ ?_ ?_ ?_); rotate_left; (· rfl); (· rfl); (· exact epo_info); (· rfl); (· simp [Value.oneCell']); simp only [Act.put]))
      all_goals exact bodyPost_ret (Plan.results_cell_tmp (p := 4) (q := 5) rfl _ _ _ _ _ _ _ rfl (setRow_heap _ _ _ _ _ _ hr6) Try.underlying25 rfl epo_info) rfl ⟨_, _, _, _, _, _, _, rfl, ⟨by rw [HJ.out], by rw [HJ.out]; exact PP.out, PZ.out⟩, below_setRow b6 (show w.heap.size ≤ w.heap.size + 1 by omega) _⟩
    · have hB : forgetB E z = false := by unfold forgetB readyB readyZ; rw [hq]; exact decide_eq_false hz
      rw [hB, forgetE_no hB]
      have t1 : (y.zone != z) = true := by simpa using hz
      clear hl hB hq
      go_enter Try.func23, Try.ntmps23
      generalize hw0 : (w.alloc (epoRow g a n c b m d)).alloc (epoRow 0 none 0 0 none 0 0) = w0 at *
      go_wp2_with (first
        | ((with_reducible refine Plan.load_lit 25 (.tmp 2) (w.heap.size) ?_ hx0 Try.underlying25 ?_ ?_ ?_); (· rfl); (· rfl); (· exact epo_info); simp only [Act.put, List.setIfInBounds_toArray, List.set_cons_zero, List.set_cons_succ])
        | (go_at_call 39; ((with_reducible refine (HR.out).mono ?_); rintro r9 w1 ⟨j, rfl, hj, h9⟩; have b1 := hA.trans (h9.mono hA.size); have hx1 := e_on h9 hx0 (e_lt hx0); have hr1 := e_on h9 hr0 (e_lt hr0); obtain ⟨c0, c1, c2⟩ := three_row hx1; obtain ⟨x, rfl, hjm, d0, d1⟩ := HZ.out _ b1 j y hj; have hjI : (j : Int) < (m : Int) := (by omega); clear HR hx0 hr0 hA h9 hw0 hj HZ))
        | ((with_reducible refine Plan.load_lit 25 (.tmp 2) (w.heap.size) ?_ hx1 Try.underlying25 ?_ ?_ ?_); (· rfl); (· rfl); (· exact epo_info); simp only [Act.put, List.setIfInBounds_toArray, List.set_cons_zero, List.set_cons_succ])
        | ((with_reducible refine Plan.store_lit 25 (.tmp 4) _ (w.heap.size + 1) ?_ hr1 ?_ ?_ ?_ ?_ ?_ ?_); rotate_left; (· rfl); (· rfl); (· exact epo_info); (· rfl); (· simp [Value.oneCell']); simp only [Act.put]))
      exact bodyPost_ret (Plan.results_cell_tmp (p := 4) (q := 5) rfl _ _ _ _ _ _ _ rfl (setRow_heap _ _ _ _ _ _ hr1) Try.underlying25 rfl epo_info) rfl ⟨_, _, _, _, _, _, _, rfl, HEND.out _ b1 _, below_setRow b1 (show w.heap.size ≤ w.heap.size + 1 by omega) _⟩
theorem advE_no {E : Epo} (h : advB E = false) : advE E = E := by unfold advE; rw [if_neg (by rw [h]; decide)]
set_option maxHeartbeats 8000000 in
set_option maxRecDepth 20000 in
theorem epoAdvance_any (F : Nat → Prop) (E : Epo) (g : Int) (a b : Option Addr) (n c m d : Nat) (w : World) (hl : PList w F g a n c b m d E) :
    Calls Try.prog 21 #[epoV g a n c b m d] w (EpoPost w F (advE E) (advB E)) := by
  have hA := heap2e w (epoRow g a n c b m d) (epoRow 0 none 0 0 none 0 0)
  have hx0 := heap_first w (epoRow g a n c b m d) (epoRow 0 none 0 0 none 0 0)
  have hr0 := heap_second w (epoRow g a n c b m d) (epoRow 0 none 0 0 none 0 0)
  have HEND := Lib.hid (fun W (h : Below w.heap.size w W) (cs : Array Value) => (show PList (W.setRow (w.heap.size + 1) cs) (Plus F w.heap.size) g a n c b m d E from
    ((hl.cut.on (Same.below (w' := W) h)).on (Same.row (r := w.heap.size + 1) (fun h9 => by have := h9.2; omega) cs)).mono (fun b _ h => .inl h.1)))
  have HV := Lib.hid (epoValid_any _ E g a b n c m d _ (hl.same hA))
  have HP := Lib.hid (fun W (h : Below w.heap.size w W) i (hi : i < n) => (hl.p.same h).at' i hi)
  have hlen := hl.p.length
  have hcp := hl.p.cap
  unfold maxLen at hcp
  have hgl := hl.hg
  clear hl
  cases hv : validE E
  · have hB : advB E = false := by unfold advB; rw [hv]; rfl
    rw [hB, advE_no hB]
    rw [hv] at HV
    clear hB hv
    go_enter Try.func21, Try.ntmps21
    generalize hw0 : (w.alloc (epoRow g a n c b m d)).alloc (epoRow 0 none 0 0 none 0 0) = w0 at *
    go_wp2_with (first
      | ((with_reducible refine Plan.load_lit 25 (.tmp 1) (w.heap.size) ?_ hx0 Try.underlying25 ?_ ?_ ?_); (· rfl); (· rfl); (· exact epo_info); simp only [Act.put, List.setIfInBounds_toArray, List.set_cons_zero, List.set_cons_succ])
      | (go_at_call 24; ((with_reducible refine (HV.out).mono ?_); rintro r9 w1 ⟨rfl, h9⟩; have b1 := hA.trans (h9.mono hA.size); have hx1 := e_on h9 hx0 (e_lt hx0); have hr1 := e_on h9 hr0 (e_lt hr0); clear HV hx0 hr0 hA h9 hw0))
      | ((with_reducible refine Plan.load_lit 25 (.tmp 1) (w.heap.size) ?_ hx1 Try.underlying25 ?_ ?_ ?_); (· rfl); (· rfl); (· exact epo_info); simp only [Act.put, List.setIfInBounds_toArray, List.set_cons_zero, List.set_cons_succ])
      | ((with_reducible refine Plan.store_lit 25 (.tmp 2) _ (w.heap.size + 1) ?_ hr1 ?_ ?_ ?_ ?_ ?_ ?_); rotate_left; (· rfl); (· rfl); (· exact epo_info); (· rfl); (· simp [Value.oneCell']); simp only [Act.put]))
    exact bodyPost_ret (Plan.results_cell_tmp (p := 2) (q := 3) rfl _ _ _ _ _ _ _ rfl (setRow_heap _ _ _ _ _ _ hr1) Try.underlying25 rfl epo_info) rfl ⟨_, _, _, _, _, _, _, rfl, HEND.out _ b1 _, below_setRow b1 (show w.heap.size ≤ w.heap.size + 1 by omega) _⟩
  · rw [hv] at HV
    have hhd := head_e hv
    rw [hgl] at hhd
    by_cases hg : g = 1099511627776
    · have hB : advB E = false := by unfold advB; rw [hgl, decide_eq_true hg]; simp
      rw [hB, advE_no hB]
      have t1 : (g == 1099511627776) = true := by simpa using hg
      clear hB hv hg
      go_enter Try.func21, Try.ntmps21
      generalize hw0 : (w.alloc (epoRow g a n c b m d)).alloc (epoRow 0 none 0 0 none 0 0) = w0 at *
      go_wp2_with (first
        | ((with_reducible refine Plan.load_lit 25 (.tmp 1) (w.heap.size) ?_ hx0 Try.underlying25 ?_ ?_ ?_); (· rfl); (· rfl); (· exact epo_info); simp only [Act.put, List.setIfInBounds_toArray, List.set_cons_zero, List.set_cons_succ])
        | (go_at_call 24; ((with_reducible refine (HV.out).mono ?_); rintro r9 w1 ⟨rfl, h9⟩; have b1 := hA.trans (h9.mono hA.size); have hx1 := e_on h9 hx0 (e_lt hx0); have hr1 := e_on h9 hr0 (e_lt hr0); clear HV hx0 hr0 hA h9 hw0; obtain ⟨c0, c1, c2⟩ := three_row hx1))
        | ((with_reducible refine Plan.load_lit 25 (.tmp 1) (w.heap.size) ?_ hx1 Try.underlying25 ?_ ?_ ?_); (· rfl); (· rfl); (· exact epo_info); simp only [Act.put, List.setIfInBounds_toArray, List.set_cons_zero, List.set_cons_succ])
        | ((with_reducible refine Plan.store_lit 25 (.tmp 2) _ (w.heap.size + 1) ?_ hr1 ?_ ?_ ?_ ?_ ?_ ?_); rotate_left; (· rfl); (· rfl); (· exact epo_info); (· rfl); (· simp [Value.oneCell']); simp only [Act.put]))
      exact bodyPost_ret (Plan.results_cell_tmp (p := 2) (q := 3) rfl _ _ _ _ _ _ _ rfl (setRow_heap _ _ _ _ _ _ hr1) Try.underlying25 rfl epo_info) rfl ⟨_, _, _, _, _, _, _, rfl, HEND.out _ b1 _, below_setRow b1 (show w.heap.size ≤ w.heap.size + 1 by omega) _⟩
    · have t1 : (g == 1099511627776) = false := by simpa using hg
      have hAB : advB E = E.pins.all (atG g) := by unfold advB; rw [hv, hgl, decide_eq_false hg]; rfl
      have hno := fun h => @advE_no E h
      have hyes : advB E = true → advE E = ⟨g + 1, E.pins, E.zones⟩ := fun h => by unfold advE; rw [if_pos h, hgl]
      rw [hAB] at hno hyes
      rw [hAB]
      have HPB := Lib.hid (fun j p (he : E.pins[j]? = some p) => @all_bad Int (atG g) E.pins j p he)
      have HPG := Lib.hid (@all_good Int (atG g) E.pins)
      generalize E.pins.all (atG g) = R at *
      generalize advE E = D at *
      have HNO := Lib.hid hno
      have HYES := Lib.hid hyes
      have w1g : wrap64 (g + 1) = g + 1 := by unfold wrap64; omega
      have w2g : IntKind.i64.wrap (g + 1) = g + 1 := IntWalk.i64_in _ (by omega)
      clear hno hyes hAB hv
      go_enter Try.func21, Try.ntmps21
      generalize hw0 : (w.alloc (epoRow g a n c b m d)).alloc (epoRow 0 none 0 0 none 0 0) = w0 at *
      go_wp2_with (first
        | ((with_reducible refine Plan.load_lit 25 (.tmp 1) (w.heap.size) ?_ hx0 Try.underlying25 ?_ ?_ ?_); (· rfl); (· rfl); (· exact epo_info); simp only [Act.put, List.setIfInBounds_toArray, List.set_cons_zero, List.set_cons_succ])
        | (go_at_call 24; ((with_reducible refine (HV.out).mono ?_); rintro r9 w1 ⟨rfl, h9⟩; have b1 := hA.trans (h9.mono hA.size); have hx1 := e_on h9 hx0 (e_lt hx0); have hr1 := e_on h9 hr0 (e_lt hr0); clear HV hx0 hr0 hA h9 hw0; obtain ⟨c0, c1, c2⟩ := three_row hx1)))
      clear c0 c1 c2
      go_loopw [5, 19] (fun _ x wr => ∃ j : Nat, x = .int .i64 (j : Int) ∧ j ≤ n ∧ RowKit.Hid (∀ (i : Nat) (p : Int), i < j → E.pins[i]? = some p → atG g p = true) ∧ wr.heap[w.heap.size]? = some (epoRow g a n c b m d) ∧ wr.heap[w.heap.size + 1]? = some (epoRow 0 none 0 0 none 0 0) ∧ Below w.heap.size w wr) (fun _ x _ => n - (intOf x).toNat)
      case atStart => exact ⟨0, rfl, by omega, Lib.hid (fun i p h => absurd h (Nat.not_lt_zero _)), hx1, hr1, b1⟩
      case round =>
        clear hx1 hr1 b1
        obtain ⟨j, rfl, hj, hbf, hx1, hr1, b1⟩ := hrel
        obtain ⟨c0, c1, c2⟩ := three_row hx1
        by_cases hlt : j < n
        · obtain ⟨x, p, rfl, hz, hcx⟩ := HP.out wr b1 j hlt
          have hjI : (j : Int) < (n : Int) := by omega
          have NB := Lib.hid (HPB.out j p hz)
          have NX := Lib.hid (fun (h0 : atG g p = true) (i : Nat) (y : Int) (hi : i < j + 1) (h : E.pins[i]? = some y) => (show atG g y = true from by
            rcases Nat.lt_or_ge i j with h1 | h1
            · exact hbf.out i y h1 h
            · obtain rfl : i = j := by omega
              rw [hz] at h
              obtain rfl := Option.some.inj h
              exact h0))
          clear hz
          by_cases q1 : p = -1
          · have HN := Lib.hid (NX.out (by unfold atG; simp [q1]))
            have t2 : (p != -1) = false := by simpa using q1
            go_wp2_with fail
            go_roundw
            case rel => exact ⟨j + 1, by go_num, by omega, HN, hx1, hr1, b1⟩
            case measure => simp [intOf]; omega
          · have t2 : (p != -1) = true := by simpa using q1
            by_cases q2 : p = g
            · have HN := Lib.hid (NX.out (by unfold atG; simp [q2]))
              have t3 : (p != g) = false := by simpa using q2
              clear NX NB
              go_wp2_with fail
              go_roundw
              case rel => exact ⟨j + 1, by go_num, by omega, HN, hx1, hr1, b1⟩
              case measure => simp [intOf]; omega
            · have t3 : (p != g) = true := by simpa using q2
              have hR := Lib.hid (NB.out (by unfold atG; simp [q1, q2]))
              have hD := Lib.hid (HNO.out hR.out)
              go_wp2_with (first
                | ((with_reducible refine Plan.load_lit 25 (.tmp 1) (w.heap.size) ?_ hx1 Try.underlying25 ?_ ?_ ?_); (· rfl); (· rfl); (· exact epo_info); simp only [Act.put, List.setIfInBounds_toArray, List.set_cons_zero, List.set_cons_succ])
                | ((with_reducible refine Plan.store_lit 25 (.tmp 2) _ (w.heap.size + 1) ?_ hr1 ?_ ?_ ?_ ?_ ?_ ?_); rotate_left; (· rfl); (· rfl); (· exact epo_info); (· rfl); (· simp [Value.oneCell']); simp only [Act.put]))
              refine bodyPost_ret (Plan.results_cell_tmp (p := 2) (q := 3) rfl _ _ _ _ _ _ _ rfl (setRow_heap _ _ _ _ _ _ hr1) Try.underlying25 rfl epo_info) rfl ⟨g, some x, n, c, b, m, d, by rw [hR.out]; rfl, by rw [hD.out]; exact HEND.out _ b1 _, below_setRow b1 (show w.heap.size ≤ w.heap.size + 1 by omega) _⟩
        · obtain rfl : j = n := by omega
          have hjI : ¬ (j : Int) < (j : Int) := by omega
          have hR := Lib.hid (HPG.out (fun i p hp => hbf.out i p (by have := (List.getElem?_eq_some_iff.1 hp).1; omega) hp))
          have hD := Lib.hid (HYES.out hR.out)
          have hX2 := heap_alloc_new wr (epoRow g a j c b m d)
          obtain ⟨e0, e1, e2⟩ := three_row hX2
          have hr2 := e_al hr1 (epoRow g a j c b m d)
          have b2 := b1.alloc b1.size (epoRow g a j c b m d)
          have hq := e_lt hr1
          clear hbf HP HPB HPG HNO HYES
          go_wp2_with (first
            | ((with_reducible refine Plan.load_lit 25 (.tmp 1) (w.heap.size) ?_ hx1 Try.underlying25 ?_ ?_ ?_); (· rfl); (· rfl); (· exact epo_info); simp only [Act.put, List.setIfInBounds_toArray, List.set_cons_zero, List.set_cons_succ])
            | ((with_reducible refine Res.store_at 3 (.tmp 37) _ (wr.heap.size) 0 (.int .i64 (g + 1)) hX2 ?_ ?_ ?_ ?_ ?_ ?_ ?_); (· rfl); (· rfl); (· simp); (· kernel_rfl); (· rfl); (· rfl); simp only [Act.put, List.setIfInBounds_toArray, List.set_cons_zero]; have hX3 := setRow_heap _ wr.heap.size _ #[.int .i64 (g + 1), .slice a j c, .slice b m d] _ _ hX2; have hr3 := (setRow_other _ wr.heap.size (w.heap.size + 1) #[.int .i64 (g + 1), .slice a j c, .slice b m d] (by omega)).trans hr2; have b3 := below_setRow b2 b1.size #[.int .i64 (g + 1), .slice a j c, .slice b m d]; clear hX2 hr2 b2 e0 e1 e2)
            | ((with_reducible refine Plan.load_lit 25 (.tmp 6) (wr.heap.size) ?_ hX3 Try.underlying25 ?_ ?_ ?_); (· rfl); (· rfl); (· exact epo_info); simp only [Act.put, List.setIfInBounds_toArray, List.set_cons_zero, List.set_cons_succ])
            | ((with_reducible refine Plan.store_lit 25 (.tmp 2) _ (w.heap.size + 1) ?_ hr3 ?_ ?_ ?_ ?_ ?_ ?_); rotate_left; (· rfl); (· rfl); (· exact epo_info); (· rfl); (· simp [Value.oneCell']); simp only [Act.put]))
          have PL := HEND.out _ b3 #[.int .i64 (g + 1), .slice a j c, .slice b m d]
          exact bodyPost_ret (Plan.results_cell_tmp (p := 2) (q := 3) rfl _ _ _ _ _ _ _ rfl (setRow_heap _ _ _ _ _ _ hr3) Try.underlying25 rfl epo_info) rfl ⟨g + 1, a, j, c, b, m, d, by rw [hR.out]; rfl, by rw [hD.out]; exact ⟨rfl, PL.p, PL.z⟩, below_setRow b3 (show w.heap.size ≤ w.heap.size + 1 by omega) _⟩
set_option maxHeartbeats 4000000 in
set_option maxRecDepth 20000 in
theorem epoNew_any (s : Int) (w : World) : Calls Try.prog 10 #[.int .i64 s] w (ENewPost w (newE s) (newEE s)) := by
  have hA := (Below.refl w.heap.size w).alloc (Nat.le_refl _) (epoRow 0 none 0 0 none 0 0)
  have hr0 := heap_alloc_new w (epoRow 0 none 0 0 none 0 0)
  have HP := Lib.hid (fun W => epoPossible_any s W)
  by_cases hs : 1 ≤ s ∧ s ≤ 4
  · obtain ⟨n, rfl⟩ : ∃ n : Nat, s = (n : Int) := ⟨s.toNat, by omega⟩
    have h1 : newE (n : Int) = ⟨0, List.replicate n (-1), []⟩ := by unfold newE; rw [if_pos hs, Int.toNat_natCast]
    have h2 : newEE (n : Int) = 0 := if_pos hs
    rw [h1, h2]
    rw [decide_eq_true hs] at HP
    have hx1 := heap_alloc_new (w.alloc (epoRow 0 none 0 0 none 0 0)) (.cells #[.int .i64 (-1)] 3)
    have hr1 := e_al hr0 (.cells #[.int .i64 (-1)] 3)
    have hB := hA.alloc hA.size (.cells #[.int .i64 (-1)] 3)
    have HR := Lib.hid (Reps.repeat_any (-1) _ n _ _ hx1 (by omega) (by omega))
    have hnm : n ≤ maxLen := by unfold maxLen; omega
    have hs1 : (w.alloc (epoRow 0 none 0 0 none 0 0)).heap.size = w.heap.size + 1 := by simp
    rw [hs1] at HR
    clear h1 h2 hs hx1 hr0 hA hs1
    go_enter Try.func10, Try.ntmps10
    go_wp2_with (first
      | (go_at_call 31; ((with_reducible refine (HP.out _).mono ?_); rintro r9 w9 ⟨rfl, rfl⟩))
      | (go_at_call 32; ((with_reducible refine (HR.out).mono ?_); rintro r9 w2 ⟨g, rfl, hg, hG, h2⟩; have b2 := hB.trans (h2.mono hB.size); have hr2 := e_on h2 hr1 (e_lt hr1); have hgg : w.heap.size + 1 < g := (by simp only [World.size_alloc] at hg; omega); clear hg HR hr1))
      | ((with_reducible refine Plan.store_lit 25 (.tmp 2) _ (w.heap.size) ?_ hr2 ?_ ?_ ?_ ?_ ?_ ?_); rotate_left; (· rfl); (· rfl); (· exact epo_info); (· rfl); (· simp [Value.oneCell']); simp only [Act.put]))
    have g3 := (setRow_other w2 w.heap.size g #[.int .i64 0, .slice (some ⟨g, 0, none⟩) n n, .slice none 0 0] (by omega)).trans hG
    exact bodyPost_ret (Plan.results_cell_tmp (p := 2) (q := 3) rfl _ _ _ _ _ _ _ rfl (setRow_heap _ _ _ _ _ _ hr2) Try.underlying25 rfl epo_info) rfl ⟨_, _, _, _, _, _, _, rfl, ⟨rfl, row_ilist g3 (by simp) hnm (by omega), TList.nil _ _⟩, below_setRow b2 (Nat.le_refl _) _⟩
  · have h1 : newE s = ⟨0, [], []⟩ := if_neg hs
    have h2 : newEE s = 1 := if_neg hs
    rw [h1, h2]
    rw [decide_eq_false hs] at HP
    clear h1 h2
    go_enter Try.func10, Try.ntmps10
    generalize hw0 : w.alloc (epoRow 0 none 0 0 none 0 0) = w0 at *
    go_wp2_with (first
      | (go_at_call 31; ((with_reducible refine (HP.out _).mono ?_); rintro r9 w9 ⟨rfl, rfl⟩))
      | ((with_reducible refine Plan.store_lit 25 (.tmp 2) _ (w.heap.size) ?_ hr0 ?_ ?_ ?_ ?_ ?_ ?_); rotate_left; (· rfl); (· rfl); (· exact epo_info); (· rfl); (· simp [Value.oneCell']); simp only [Act.put]))
    exact bodyPost_ret (Plan.results_cell_tmp (p := 2) (q := 3) rfl _ _ _ _ _ _ _ rfl (setRow_heap _ _ _ _ _ _ hr0) Try.underlying25 rfl epo_info) rfl ⟨_, _, _, _, _, _, _, rfl, ⟨rfl, IList.nil _ _, TList.nil _ _⟩, below_setRow hA (Nat.le_refl _) _⟩
theorem epochOk : EpochOk where
  new := epoNew_any
  valid := fun F E g a b n c m d w _ hl _ _ => epoValid_any F E g a b n c m d w hl
  pin := fun F E s g a b n c m d w _ hl hn _ => epoPin_any F E s g a b n c m d w hl hn
  unpin := fun F E s g a b n c m d w _ hl hn _ => epoUnpin_any F E s g a b n c m d w hl hn
  retire := fun F E s g a b n c m d w hF hl _ hm => epoRetire_any F E s g a b n c m d w hF hl hm
  adv := fun F E g a b n c m d w _ hl _ _ => epoAdvance_any F E g a b n c m d w hl
  forget := fun F E s g a b n c m d w _ hl _ hm => epoForget_any F E s g a b n c m d w hl hm
  ready := fun F E g a b n c m d w _ hl _ _ => epoReadyZ_any F E g a b n c m d w hl
end Go.Proofs.Ytbfoagfemgogkaa.Ents
