
/- The walk of RingOrder. -/
import Derived.Test.YtljdepnhhngbeaaRingRaw
import Derived.Test.YtljdepnhhngbeaaRingMath2
import Derived.Test.YtljdepnhhngbeaaBaseInts
import Derived.Test.YtljdepnhhngbeaaMakeDice
import Derived.Deep.DeepCutAuto
namespace Go.Proofs.Ytljdepnhhngbeaa.Ents
open Go.RowKit Plan RingMath Rws Env
theorem row_cells {w : World} {a : Option Addr} {n c : Nat} {Z : List Int} (hz : IsRow .i64 w a n c Z) (W : World) (hb : Below w.heap.size w W) (i : Nat) (hi : i < n) :
    ∃ x z, a = some x ∧ W.cell? (x.add i) = some (.int .i64 z) ∧ (-9223372036854775808 ≤ z ∧ z ≤ 9223372036854775807) := by
  rcases hz with ⟨_, rfl, _⟩ | ⟨x, hx, h1, h2, h3, h4, h5⟩
  · omega
  · have hc := h4 i (by omega)
    have hm : Z.getD i 0 ∈ Z := by
      rw [List.getD_eq_getElem?_getD, List.getElem?_eq_getElem (by omega)]
      exact List.getElem_mem _
    have hw := h5 _ hm
    have e1 : IntKind.i64.min = -9223372036854775808 := rfl
    have e2 : IntKind.i64.max = 9223372036854775807 := rfl
    simp only [Lit.wf, decide_eq_true_eq, Bool.and_eq_true] at hw
    exact ⟨x, _, hx, (hb.cell (World.block_lt_of_cell? w _ hc)).trans hc, by omega⟩
theorem rq4 {w : World} {g : Nat} {a b c d : Value} {t : TypeId} {fr : Nat × Nat} (h : w.heap[g]? = some (.cells #[a, b, c, d] t fr)) : w.cell? ⟨g, 0, none⟩ = some a := cell_of_row _ _ 0 _ _ _ h
/-- the first number, the one at i of a list of numbers -/
theorem ir_at {w : World} {F : Nat → Prop} {x : Addr} {n c : Nat} {L : List Int} (h : TList IR w F (some x) n c L) (i : Nat) {y : Int} (hy : L[i]? = some y) (hi : i < n) : w.cell? (x.add i) = some (.int .i64 y) := by
  obtain ⟨x2, y2, h1, h2, h3⟩ := h.at' irOk i hi
  obtain rfl := Option.some.inj h1
  rw [hy] at h2
  obtain rfl := Option.some.inj h2
  have := h3 0 _ rfl
  rwa [show i * IR.sz + 0 = i from Nat.mul_one i] at this
set_option maxHeartbeats 8000000 in
set_option maxRecDepth 20000 in
theorem ringOrder_any (H : RingOk) (dp : Int) (a : Option Addr) (n c : Nat) (Z : List Int) (w : World) (h0 : 0 ≤ dp ∧ dp ≤ 255) (hz : IsRow .i64 w a n c Z) :
    Calls Try.prog 4 #[.int .u8 dp, .slice a n c] w fun r w' => r = .returned (.bool true) ∧ Below w.heap.size w w' := by
  have HW := Lib.hid (fun W => ringAwake_any H W)
  by_cases hm : n ≤ 100
  · have d1 : ¬ (100 : Int) < (n : Int) := by omega
    have K := Env.start w
    have hD : 1 ≤ 1 + dp % 8 ∧ 1 + dp % 8 ≤ 8 := by omega
    have H1 := Lib.hid (fun W F => H.new F (1 + dp % 8) W)
    have hnD : newD (1 + dp % 8) = 1 + dp % 8 ∧ newE (1 + dp % 8) = 0 := by unfold newD newE; rw [if_neg (by omega), if_neg (by omega)]; exact ⟨rfl, rfl⟩
    rw [hnD.1, hnD.2] at H1
    unfold GPost at H1
    have HZ := Lib.hid (row_cells hz)
    clear hnD hz
    go_enter Try.func4, Try.ntmps4
    go_upto_region 4 with fail
    generalize 1 + dp % 8 = D at *
    clear h0
    go_wp2_with (first
      | (go_at_call 6; ((with_reducible refine (H1.out _ (K.quiet (fun _ => False))).mono ?_); rintro r9 w1 ⟨a1, n1, c1, rfl, hx, hb⟩; have l0 := TList.result K hb hx; clear hx; replace K := K.on hb; clear hb; replace l0 := l0.keep (K.keep_al (F := fun _ => False) (rgRow D a1 n1 c1)); replace K := K.al (rgRow D a1 n1 c1))))
    generalize w1.heap.size = G at *
    have hn1 := l0.length
    obtain rfl : n1 = 0 := hn1.symm
    have hv0 : validG D [] = true := by rw [valid_iff]; exact ⟨hD, by simp; omega, fun i x hx => by simp at hx⟩
    clear hn1
    go_loopw [8, 9] (fun v x wr => ∃ (j : Nat) (L : List Rq) (ra wa : Option Addr) (rn rc wc : Nat), x = .int .i64 (j : Int) ∧ j ≤ n ∧ v = .slice wa rn wc ∧ RowKit.Hid (validG D L = true) ∧ Env w wr [.box G (rgRow D ra rn rc)] ∧ GList wr (Quiet w (fun _ => False) wr [.box G (rgRow D ra rn rc)]) ra rn rc L ∧ TList IR wr (Quiet w (fun _ => False) wr [.box G (rgRow D ra rn rc)]) wa rn wc (serials L)) (fun _ x _ => n - (intOf x).toNat)
    case atStart => exact ⟨0, [], a1, none, 0, c1, 0, rfl, by omega, rfl, Lib.hid hv0, K, l0, TList.nil _ _⟩
    case round =>
      clear K l0 hv0
      obtain ⟨j, L, ra, wa, rn, rc, wc, rfl, hj, rfl, hv, K, l0, m0⟩ := hrel
      by_cases hlt : j < n
      · obtain ⟨x, z, rfl, hzc, hzb⟩ := HZ.out wr K.hb j hlt
        have hjI : (j : Int) < (n : Int) := by omega
        have hvl0 := valid_len hv.out
        rw [l0.length] at hvl0
        cases hB3 : (z.tmod 3 == 0)
        · skip
          cases hB5 : (z.tmod 5 == 0)
          · skip
            by_cases hd : (rn : Int) = D
            · have t1 : ((rn : Int) == D) = true := by simpa using hd
              have H2 := Lib.hid (fun W F a n c (h : GList W F a n c L) => H.submit F L D a n c (j : Int) 0 0 ⟨#[]⟩ W h)
              have e1 : submitE D L (j : Int) = 13 := sub_full hv.out (by rw [l0.length]; exact hd)
              rw [sub_stay (x := ⟨(j : Int), 0, 0, ⟨#[]⟩⟩) e1 (by decide), e1] at H2
              unfold GPost at H2
              have hvl := hv
              have hml := m0.length
              rw [serials_len] at hml
              clear e1
              clear hd
              go_upto_region 25 with (first
                | ((with_reducible refine Plan.load_lit 24 (.tmp 6) (G) ?_ (K.get 0 rfl) Try.underlying24 ?_ ?_ ?_); (· rfl); (· rfl); (· exact rg_info); simp only [Act.put, List.setIfInBounds_toArray, List.set_cons_zero, List.set_cons_succ])
                | (go_at_call 11; ((with_reducible refine (H2.out _ _ _ _ _ l0).mono ?_); rintro r9 w2 ⟨a2, n2, c2, rfl, hx, hb⟩; have l2 := TList.result K hb hx; replace m0 := m0.keep (K.keep_on hb); clear hx l0; replace K := K.on hb; clear hb; replace l2 := l2.keep (K.keep_al (F := fun _ => False) (rgRow D a2 n2 c2)); replace m0 := m0.keep (K.keep_al (F := fun _ => False) (rgRow D a2 n2 c2)); replace K := K.al (rgRow D a2 n2 c2))))
              generalize hw3 : w2.alloc (rgRow D a2 n2 c2) = w3 at *
              clear hw3
              generalize w2.heap.size = G2 at *
              go_wp2_with (first
                | ((with_reducible refine Plan.load_lit 24 (.tmp 15) (G2) ?_ (K.get 0 rfl) Try.underlying24 ?_ ?_ ?_); (· rfl); (· rfl); (· exact rg_info); simp only [Act.put, List.setIfInBounds_toArray, List.set_cons_zero, List.set_cons_succ])
                | ((with_reducible refine Plan.store_lit 24 (.tmp 6) _ G #[.int .i64 D, .slice a2 n2 c2] (K.get 1 rfl) ?_ ?_ ?_ ?_ ?_ ?_); rotate_left; (· rfl); (· exact rg_info); (· rfl); (· simp [Value.oneCell']); rotate_left; (· rfl); simp only [Act.put]; have k9 := K.keep_put (F := fun _ => False) 1 rfl (cs' := #[.int .i64 D, .slice a2 n2 c2]) rfl; replace l2 := l2.keep k9; replace m0 := m0.keep k9; replace K := K.put 1 rfl (cs' := #[.int .i64 D, .slice a2 n2 c2]) rfl; clear k9; simp only [List.set] at K l2 m0))
              generalize World.setRow _ _ _ = w6 at *
              go_roundw
              case rel =>
                have k9 := K.keep_sub (F := fun _ => False) (T' := [Env.Thing.box G (rgRow D a2 n2 c2)]) (fun y hy => by rw [List.mem_singleton.1 hy]; exact List.mem_of_getElem? (i := 1) rfl)
                have hq := l2.length
                have hq2 := m0.length
                obtain rfl : n2 = rn := by omega
                exact ⟨j + 1, L, a2, wa, n2, c2, wc, by go_num, by omega, rfl, Lib.hid hvl.out, K.sub [1] rfl (by simp) (by simp), l2.keep k9, m0.keep k9⟩
              case measure => simp [intOf]; omega
            have t1 : ((rn : Int) == D) = false := by simpa using hd
            have hd' : ¬ (L.length : Int) = D := by rw [l0.length]; exact hd
            have hs : ¬ (j : Int) < 0 := by omega
            have t2 : decide ((j : Int) < 0) = false := decide_eq_false hs
            by_cases hn : rn = 0
            · have t3 : decide (0 < rn) = false := by simp; omega
              have t4 : ¬ (0 : Int) < (rn : Int) := by omega
              have hva := Lib.hid (valid_add (z := ⟨(j : Int), 0, 0, ⟨#[]⟩⟩) hv.out (by rw [l0.length]; omega) (by show 0 ≤ (j : Int); omega) (fun y hy => by have := (List.getElem?_eq_some_iff.1 hy).1; rw [l0.length] at this; omega))
              have H2 := Lib.hid (fun W F a n c (h : GList W F a n c L) => H.submit F L D a n c (j : Int) 0 0 ⟨#[]⟩ W h)
              have e1 : submitE D L (j : Int) = 0 := sub_first hv.out hd' hs (by rw [l0.length]; exact hn)
              rw [sub_go (x := ⟨(j : Int), 0, 0, ⟨#[]⟩⟩) e1, e1] at H2
              unfold GPost at H2
              have hvl := hv
              have hml := m0.length
              rw [serials_len] at hml
              clear e1
              clear hd hd' hn
              go_upto_region 25 with (first
                | ((with_reducible refine Plan.load_lit 24 (.tmp 6) (G) ?_ (K.get 0 rfl) Try.underlying24 ?_ ?_ ?_); (· rfl); (· rfl); (· exact rg_info); simp only [Act.put, List.setIfInBounds_toArray, List.set_cons_zero, List.set_cons_succ])
                | (go_at_call 11; ((with_reducible refine (H2.out _ _ _ _ _ l0).mono ?_); rintro r9 w2 ⟨a2, n2, c2, rfl, hx, hb⟩; have l2 := TList.result K hb hx; replace m0 := m0.keep (K.keep_on hb); clear hx l0; replace K := K.on hb; clear hb; replace l2 := l2.keep (K.keep_al (F := fun _ => False) (rgRow D a2 n2 c2)); replace m0 := m0.keep (K.keep_al (F := fun _ => False) (rgRow D a2 n2 c2)); replace K := K.al (rgRow D a2 n2 c2))))
              generalize hw3 : w2.alloc (rgRow D a2 n2 c2) = w3 at *
              clear hw3
              generalize w2.heap.size = G2 at *
              have KA : Env w (w3.alloc (.cells #[] 3)) (Env.lst IR (Env.slv w3.heap.size 0 0) 0 [] :: _) := K.empty IR
              have m1 := m0.keep (K.keep_empty IR)
              go_wp2_with (first
                | ((with_reducible refine Plan.load_lit 24 (.tmp 15) (G2) ?_ (K.get 2 rfl) Try.underlying24 ?_ ?_ ?_); (· rfl); (· rfl); (· exact rg_info); simp only [Act.put, List.setIfInBounds_toArray, List.set_cons_zero, List.set_cons_succ])
                | ((with_reducible refine Plan.store_lit 24 (.tmp 6) _ G #[.int .i64 D, .slice a2 n2 c2] (K.get 3 rfl) ?_ ?_ ?_ ?_ ?_ ?_); rotate_left; (· rfl); (· exact rg_info); (· rfl); (· simp [Value.oneCell']); rotate_left; (· rfl); simp only [Act.put]; have k9 := K.keep_put (F := fun _ => False) 3 rfl (cs' := #[.int .i64 D, .slice a2 n2 c2]) rfl; replace l2 := l2.keep k9; replace K := K.put 3 rfl (cs' := #[.int .i64 D, .slice a2 n2 c2]) rfl; clear k9; simp only [List.set] at K l2)
                | (refine KA.apps_list irOk rfl (.tmp 114) (.tmp 115) rfl 0 rfl rfl rfl m1 (by omega) ?_; intro gA cA w4 K9 k9; simp only [List.set, Nat.zero_add, List.nil_append] at K9 k9; simp only [Nat.zero_add, Act.put, List.setIfInBounds_toArray, List.set_cons_zero, List.set_cons_succ]; have KB := K9.al (.cells #[.int .i64 (j : Int)] 3 (0, 0)); replace l2 := (l2.keep (K.keep_empty IR)).keep (k9 (fun _ => False)); replace l2 := l2.keep (K9.keep_al (.cells #[.int .i64 (j : Int)] 3 (0, 0))); clear K KA K9 k9 m0 m1)
                | (refine KB.apps_one irOk rfl (.tmp 116) (.tmp 118) rfl 1 0 rfl rfl (e := (j : Int)) rfl rfl (by omega) ?_; intro gB cB w5 K8 k8; simp only [List.set] at K8 k8; simp only [Act.put, List.setIfInBounds_toArray, List.set_cons_zero, List.set_cons_succ]; replace l2 := l2.keep (k8 (fun _ => False)); clear KB k8; have K := K8; clear K8))
              generalize World.setRow _ _ _ = w6 at *
              go_roundw
              case rel =>
                have k9 := K.keep_sub (F := fun _ => False) (T' := [Env.Thing.box G (rgRow D a2 n2 c2)]) (fun y hy => by rw [List.mem_singleton.1 hy]; exact List.mem_of_getElem? (i := 3) rfl)
                have m9 := (K.settle (F := fun _ => False) irOk 1 rfl).fewer (T' := [Env.Thing.box G (rgRow D a2 n2 c2)]) (fun y hy => by rw [List.mem_singleton.1 hy]; exact List.mem_of_getElem? (i := 2) rfl)
                have hq := l2.length
                rw [List.length_append, List.length_singleton] at hq
                obtain rfl : n2 = rn + 1 := by omega
                exact ⟨j + 1, L ++ [⟨(j : Int), 0, 0, ⟨#[]⟩⟩], a2, some ⟨gB, 0, none⟩, rn + 1, c2, cB, by go_num, by omega, rfl, hva, K.sub [3] rfl (by simp) (by simp), l2.keep k9, by rw [serials_add]; exact m9⟩
              case measure => simp [intOf]; omega
            obtain ⟨xw, y2, hwa, hy2, hwc⟩ := m0.at' irOk (rn - 1) (by omega)
            subst hwa
            obtain ⟨y, hy⟩ : ∃ y, L[rn - 1]? = some y := ⟨_, List.getElem?_eq_getElem (by rw [l0.length]; omega)⟩
            have hwl := ir_at m0 (rn - 1) (serials_get hy) (by omega)
            have hyl : L[L.length - 1]? = some y := by rw [l0.length]; exact hy
            have t3 : decide (0 < rn) = true := by simp; omega
            have t4 : (0 : Int) < (rn : Int) := by omega
            have hj1 : IntKind.i64.wrap ((rn : Int) - 1) = ((rn - 1 : Nat) : Int) := by rw [IntWalk.i64_in _ (by omega)]; omega
            have hj2 : rn - 1 < rn := by omega
            clear hy2 hwc hy
            generalize hJ : rn - 1 = J at *
            have hJI : (J : Int) < (rn : Int) := by omega
            clear hJ
            by_cases hq : (j : Int) ≤ y.serial
            · have e0 := sub_next hv.out hd' hs hyl
              rw [if_pos hq] at e0
              have t5 : decide ((j : Int) ≤ y.serial) = true := decide_eq_true hq
              have H2 := Lib.hid (fun W F a n c (h : GList W F a n c L) => H.submit F L D a n c (j : Int) 0 0 ⟨#[]⟩ W h)
              have e1 : submitE D L (j : Int) = 17 := e0
              rw [sub_stay (x := ⟨(j : Int), 0, 0, ⟨#[]⟩⟩) e1 (by decide), e1] at H2
              unfold GPost at H2
              have hvl := hv
              have hml := m0.length
              rw [serials_len] at hml
              clear e1
              clear hd hd' hn e0 hyl
              generalize y.serial = ys at *
              go_upto_region 25 with (first
                | ((with_reducible refine Plan.load_lit 24 (.tmp 6) (G) ?_ (K.get 0 rfl) Try.underlying24 ?_ ?_ ?_); (· rfl); (· rfl); (· exact rg_info); simp only [Act.put, List.setIfInBounds_toArray, List.set_cons_zero, List.set_cons_succ])
                | (go_at_call 11; ((with_reducible refine (H2.out _ _ _ _ _ l0).mono ?_); rintro r9 w2 ⟨a2, n2, c2, rfl, hx, hb⟩; have l2 := TList.result K hb hx; replace m0 := m0.keep (K.keep_on hb); clear hx l0; replace K := K.on hb; clear hb; replace l2 := l2.keep (K.keep_al (F := fun _ => False) (rgRow D a2 n2 c2)); replace m0 := m0.keep (K.keep_al (F := fun _ => False) (rgRow D a2 n2 c2)); replace K := K.al (rgRow D a2 n2 c2))))
              generalize hw3 : w2.alloc (rgRow D a2 n2 c2) = w3 at *
              clear hw3
              generalize w2.heap.size = G2 at *
              go_wp2_with (first
                | ((with_reducible refine Plan.load_lit 24 (.tmp 15) (G2) ?_ (K.get 0 rfl) Try.underlying24 ?_ ?_ ?_); (· rfl); (· rfl); (· exact rg_info); simp only [Act.put, List.setIfInBounds_toArray, List.set_cons_zero, List.set_cons_succ])
                | ((with_reducible refine Plan.store_lit 24 (.tmp 6) _ G #[.int .i64 D, .slice a2 n2 c2] (K.get 1 rfl) ?_ ?_ ?_ ?_ ?_ ?_); rotate_left; (· rfl); (· exact rg_info); (· rfl); (· simp [Value.oneCell']); rotate_left; (· rfl); simp only [Act.put]; have k9 := K.keep_put (F := fun _ => False) 1 rfl (cs' := #[.int .i64 D, .slice a2 n2 c2]) rfl; replace l2 := l2.keep k9; replace m0 := m0.keep k9; replace K := K.put 1 rfl (cs' := #[.int .i64 D, .slice a2 n2 c2]) rfl; clear k9; simp only [List.set] at K l2 m0))
              generalize World.setRow _ _ _ = w6 at *
              go_roundw
              case rel =>
                have k9 := K.keep_sub (F := fun _ => False) (T' := [Env.Thing.box G (rgRow D a2 n2 c2)]) (fun y hy => by rw [List.mem_singleton.1 hy]; exact List.mem_of_getElem? (i := 1) rfl)
                have hq := l2.length
                have hq2 := m0.length
                obtain rfl : n2 = rn := by omega
                exact ⟨j + 1, L, a2, some xw, n2, c2, wc, by go_num, by omega, rfl, Lib.hid hvl.out, K.sub [1] rfl (by simp) (by simp), l2.keep k9, m0.keep k9⟩
              case measure => simp [intOf]; omega
            have e0 := sub_next hv.out hd' hs hyl
            rw [if_neg hq] at e0
            have t5 : decide ((j : Int) ≤ y.serial) = false := decide_eq_false hq
            have hva := Lib.hid (valid_add (z := ⟨(j : Int), 0, 0, ⟨#[]⟩⟩) hv.out (by rw [l0.length]; omega) (by show 0 ≤ (j : Int); omega) (fun y9 hy => by rw [hyl] at hy; obtain rfl := Option.some.inj hy; show y.serial < (j : Int); omega))
            have H2 := Lib.hid (fun W F a n c (h : GList W F a n c L) => H.submit F L D a n c (j : Int) 0 0 ⟨#[]⟩ W h)
            have e1 : submitE D L (j : Int) = 0 := e0
            rw [sub_go (x := ⟨(j : Int), 0, 0, ⟨#[]⟩⟩) e1, e1] at H2
            unfold GPost at H2
            have hvl := hv
            have hml := m0.length
            rw [serials_len] at hml
            clear e1
            clear hd hd' hn e0 hyl
            generalize y.serial = ys at *
            go_upto_region 25 with (first
              | ((with_reducible refine Plan.load_lit 24 (.tmp 6) (G) ?_ (K.get 0 rfl) Try.underlying24 ?_ ?_ ?_); (· rfl); (· rfl); (· exact rg_info); simp only [Act.put, List.setIfInBounds_toArray, List.set_cons_zero, List.set_cons_succ])
              | (go_at_call 11; ((with_reducible refine (H2.out _ _ _ _ _ l0).mono ?_); rintro r9 w2 ⟨a2, n2, c2, rfl, hx, hb⟩; have l2 := TList.result K hb hx; replace m0 := m0.keep (K.keep_on hb); clear hx l0; replace K := K.on hb; clear hb; replace l2 := l2.keep (K.keep_al (F := fun _ => False) (rgRow D a2 n2 c2)); replace m0 := m0.keep (K.keep_al (F := fun _ => False) (rgRow D a2 n2 c2)); replace K := K.al (rgRow D a2 n2 c2))))
            generalize hw3 : w2.alloc (rgRow D a2 n2 c2) = w3 at *
            clear hw3
            generalize w2.heap.size = G2 at *
            have KA : Env w (w3.alloc (.cells #[] 3)) (Env.lst IR (Env.slv w3.heap.size 0 0) 0 [] :: _) := K.empty IR
            have m1 := m0.keep (K.keep_empty IR)
            go_wp2_with (first
              | ((with_reducible refine Plan.load_lit 24 (.tmp 15) (G2) ?_ (K.get 2 rfl) Try.underlying24 ?_ ?_ ?_); (· rfl); (· rfl); (· exact rg_info); simp only [Act.put, List.setIfInBounds_toArray, List.set_cons_zero, List.set_cons_succ])
              | ((with_reducible refine Plan.store_lit 24 (.tmp 6) _ G #[.int .i64 D, .slice a2 n2 c2] (K.get 3 rfl) ?_ ?_ ?_ ?_ ?_ ?_); rotate_left; (· rfl); (· exact rg_info); (· rfl); (· simp [Value.oneCell']); rotate_left; (· rfl); simp only [Act.put]; have k9 := K.keep_put (F := fun _ => False) 3 rfl (cs' := #[.int .i64 D, .slice a2 n2 c2]) rfl; replace l2 := l2.keep k9; replace K := K.put 3 rfl (cs' := #[.int .i64 D, .slice a2 n2 c2]) rfl; clear k9; simp only [List.set] at K l2)
              | (refine KA.apps_list irOk rfl (.tmp 114) (.tmp 115) rfl 0 rfl rfl rfl m1 (by omega) ?_; intro gA cA w4 K9 k9; simp only [List.set, Nat.zero_add, List.nil_append] at K9 k9; simp only [Nat.zero_add, Act.put, List.setIfInBounds_toArray, List.set_cons_zero, List.set_cons_succ]; have KB := K9.al (.cells #[.int .i64 (j : Int)] 3 (0, 0)); replace l2 := (l2.keep (K.keep_empty IR)).keep (k9 (fun _ => False)); replace l2 := l2.keep (K9.keep_al (.cells #[.int .i64 (j : Int)] 3 (0, 0))); clear K KA K9 k9 m0 m1)
              | (refine KB.apps_one irOk rfl (.tmp 116) (.tmp 118) rfl 1 0 rfl rfl (e := (j : Int)) rfl rfl (by omega) ?_; intro gB cB w5 K8 k8; simp only [List.set] at K8 k8; simp only [Act.put, List.setIfInBounds_toArray, List.set_cons_zero, List.set_cons_succ]; replace l2 := l2.keep (k8 (fun _ => False)); clear KB k8; have K := K8; clear K8))
            generalize World.setRow _ _ _ = w6 at *
            go_roundw
            case rel =>
              have k9 := K.keep_sub (F := fun _ => False) (T' := [Env.Thing.box G (rgRow D a2 n2 c2)]) (fun y hy => by rw [List.mem_singleton.1 hy]; exact List.mem_of_getElem? (i := 3) rfl)
              have m9 := (K.settle (F := fun _ => False) irOk 1 rfl).fewer (T' := [Env.Thing.box G (rgRow D a2 n2 c2)]) (fun y hy => by rw [List.mem_singleton.1 hy]; exact List.mem_of_getElem? (i := 2) rfl)
              have hq := l2.length
              rw [List.length_append, List.length_singleton] at hq
              obtain rfl : n2 = rn + 1 := by omega
              exact ⟨j + 1, L ++ [⟨(j : Int), 0, 0, ⟨#[]⟩⟩], a2, some ⟨gB, 0, none⟩, rn + 1, c2, cB, by go_num, by omega, rfl, hva, K.sub [3] rfl (by simp) (by simp), l2.keep k9, by rw [serials_add]; exact m9⟩
            case measure => simp [intOf]; omega
          · skip
            by_cases hd : (rn : Int) = D
            · have t1 : ((rn : Int) == D) = true := by simpa using hd
              have H2 := Lib.hid (fun W F a n c (h : GList W F a n c L) => H.submit F L D a n c z 0 0 ⟨#[]⟩ W h)
              have e1 : submitE D L z = 13 := sub_full hv.out (by rw [l0.length]; exact hd)
              rw [sub_stay (x := ⟨z, 0, 0, ⟨#[]⟩⟩) e1 (by decide), e1] at H2
              unfold GPost at H2
              have hvl := hv
              have hml := m0.length
              rw [serials_len] at hml
              clear e1
              clear hd
              go_upto_region 25 with (first
                | ((with_reducible refine Plan.load_lit 24 (.tmp 6) (G) ?_ (K.get 0 rfl) Try.underlying24 ?_ ?_ ?_); (· rfl); (· rfl); (· exact rg_info); simp only [Act.put, List.setIfInBounds_toArray, List.set_cons_zero, List.set_cons_succ])
                | (go_at_call 11; ((with_reducible refine (H2.out _ _ _ _ _ l0).mono ?_); rintro r9 w2 ⟨a2, n2, c2, rfl, hx, hb⟩; have l2 := TList.result K hb hx; replace m0 := m0.keep (K.keep_on hb); clear hx l0; replace K := K.on hb; clear hb; replace l2 := l2.keep (K.keep_al (F := fun _ => False) (rgRow D a2 n2 c2)); replace m0 := m0.keep (K.keep_al (F := fun _ => False) (rgRow D a2 n2 c2)); replace K := K.al (rgRow D a2 n2 c2))))
              generalize hw3 : w2.alloc (rgRow D a2 n2 c2) = w3 at *
              clear hw3
              generalize w2.heap.size = G2 at *
              go_wp2_with (first
                | ((with_reducible refine Plan.load_lit 24 (.tmp 15) (G2) ?_ (K.get 0 rfl) Try.underlying24 ?_ ?_ ?_); (· rfl); (· rfl); (· exact rg_info); simp only [Act.put, List.setIfInBounds_toArray, List.set_cons_zero, List.set_cons_succ])
                | ((with_reducible refine Plan.store_lit 24 (.tmp 6) _ G #[.int .i64 D, .slice a2 n2 c2] (K.get 1 rfl) ?_ ?_ ?_ ?_ ?_ ?_); rotate_left; (· rfl); (· exact rg_info); (· rfl); (· simp [Value.oneCell']); rotate_left; (· rfl); simp only [Act.put]; have k9 := K.keep_put (F := fun _ => False) 1 rfl (cs' := #[.int .i64 D, .slice a2 n2 c2]) rfl; replace l2 := l2.keep k9; replace m0 := m0.keep k9; replace K := K.put 1 rfl (cs' := #[.int .i64 D, .slice a2 n2 c2]) rfl; clear k9; simp only [List.set] at K l2 m0))
              generalize World.setRow _ _ _ = w6 at *
              go_roundw
              case rel =>
                have k9 := K.keep_sub (F := fun _ => False) (T' := [Env.Thing.box G (rgRow D a2 n2 c2)]) (fun y hy => by rw [List.mem_singleton.1 hy]; exact List.mem_of_getElem? (i := 1) rfl)
                have hq := l2.length
                have hq2 := m0.length
                obtain rfl : n2 = rn := by omega
                exact ⟨j + 1, L, a2, wa, n2, c2, wc, by go_num, by omega, rfl, Lib.hid hvl.out, K.sub [1] rfl (by simp) (by simp), l2.keep k9, m0.keep k9⟩
              case measure => simp [intOf]; omega
            have t1 : ((rn : Int) == D) = false := by simpa using hd
            have hd' : ¬ (L.length : Int) = D := by rw [l0.length]; exact hd
            by_cases hs : z < 0
            · have t2 : decide (z < 0) = true := decide_eq_true hs
              have H2 := Lib.hid (fun W F a n c (h : GList W F a n c L) => H.submit F L D a n c z 0 0 ⟨#[]⟩ W h)
              have e1 : submitE D L z = 17 := sub_neg hv.out hd' hs
              rw [sub_stay (x := ⟨z, 0, 0, ⟨#[]⟩⟩) e1 (by decide), e1] at H2
              unfold GPost at H2
              have hvl := hv
              have hml := m0.length
              rw [serials_len] at hml
              clear e1
              clear hd hd'
              go_upto_region 25 with (first
                | ((with_reducible refine Plan.load_lit 24 (.tmp 6) (G) ?_ (K.get 0 rfl) Try.underlying24 ?_ ?_ ?_); (· rfl); (· rfl); (· exact rg_info); simp only [Act.put, List.setIfInBounds_toArray, List.set_cons_zero, List.set_cons_succ])
                | (go_at_call 11; ((with_reducible refine (H2.out _ _ _ _ _ l0).mono ?_); rintro r9 w2 ⟨a2, n2, c2, rfl, hx, hb⟩; have l2 := TList.result K hb hx; replace m0 := m0.keep (K.keep_on hb); clear hx l0; replace K := K.on hb; clear hb; replace l2 := l2.keep (K.keep_al (F := fun _ => False) (rgRow D a2 n2 c2)); replace m0 := m0.keep (K.keep_al (F := fun _ => False) (rgRow D a2 n2 c2)); replace K := K.al (rgRow D a2 n2 c2))))
              generalize hw3 : w2.alloc (rgRow D a2 n2 c2) = w3 at *
              clear hw3
              generalize w2.heap.size = G2 at *
              go_wp2_with (first
                | ((with_reducible refine Plan.load_lit 24 (.tmp 15) (G2) ?_ (K.get 0 rfl) Try.underlying24 ?_ ?_ ?_); (· rfl); (· rfl); (· exact rg_info); simp only [Act.put, List.setIfInBounds_toArray, List.set_cons_zero, List.set_cons_succ])
                | ((with_reducible refine Plan.store_lit 24 (.tmp 6) _ G #[.int .i64 D, .slice a2 n2 c2] (K.get 1 rfl) ?_ ?_ ?_ ?_ ?_ ?_); rotate_left; (· rfl); (· exact rg_info); (· rfl); (· simp [Value.oneCell']); rotate_left; (· rfl); simp only [Act.put]; have k9 := K.keep_put (F := fun _ => False) 1 rfl (cs' := #[.int .i64 D, .slice a2 n2 c2]) rfl; replace l2 := l2.keep k9; replace m0 := m0.keep k9; replace K := K.put 1 rfl (cs' := #[.int .i64 D, .slice a2 n2 c2]) rfl; clear k9; simp only [List.set] at K l2 m0))
              generalize World.setRow _ _ _ = w6 at *
              go_roundw
              case rel =>
                have k9 := K.keep_sub (F := fun _ => False) (T' := [Env.Thing.box G (rgRow D a2 n2 c2)]) (fun y hy => by rw [List.mem_singleton.1 hy]; exact List.mem_of_getElem? (i := 1) rfl)
                have hq := l2.length
                have hq2 := m0.length
                obtain rfl : n2 = rn := by omega
                exact ⟨j + 1, L, a2, wa, n2, c2, wc, by go_num, by omega, rfl, Lib.hid hvl.out, K.sub [1] rfl (by simp) (by simp), l2.keep k9, m0.keep k9⟩
              case measure => simp [intOf]; omega
            have hB3' : (z % 3 == 0) = false := by rw [← Int.tmod_eq_emod_of_nonneg (by omega)]; exact hB3
            have hB5' : (z % 5 == 0) = true := by rw [← Int.tmod_eq_emod_of_nonneg (by omega)]; exact hB5
            have t2 : decide (z < 0) = false := decide_eq_false hs
            by_cases hn : rn = 0
            · have t3 : decide (0 < rn) = false := by simp; omega
              have t4 : ¬ (0 : Int) < (rn : Int) := by omega
              have hva := Lib.hid (valid_add (z := ⟨z, 0, 0, ⟨#[]⟩⟩) hv.out (by rw [l0.length]; omega) (by show 0 ≤ z; omega) (fun y hy => by have := (List.getElem?_eq_some_iff.1 hy).1; rw [l0.length] at this; omega))
              have H2 := Lib.hid (fun W F a n c (h : GList W F a n c L) => H.submit F L D a n c z 0 0 ⟨#[]⟩ W h)
              have e1 : submitE D L z = 0 := sub_first hv.out hd' hs (by rw [l0.length]; exact hn)
              rw [sub_go (x := ⟨z, 0, 0, ⟨#[]⟩⟩) e1, e1] at H2
              unfold GPost at H2
              have hvl := hv
              have hml := m0.length
              rw [serials_len] at hml
              clear e1
              clear hd hd' hn
              go_upto_region 25 with (first
                | ((with_reducible refine Plan.load_lit 24 (.tmp 6) (G) ?_ (K.get 0 rfl) Try.underlying24 ?_ ?_ ?_); (· rfl); (· rfl); (· exact rg_info); simp only [Act.put, List.setIfInBounds_toArray, List.set_cons_zero, List.set_cons_succ])
                | (go_at_call 11; ((with_reducible refine (H2.out _ _ _ _ _ l0).mono ?_); rintro r9 w2 ⟨a2, n2, c2, rfl, hx, hb⟩; have l2 := TList.result K hb hx; replace m0 := m0.keep (K.keep_on hb); clear hx l0; replace K := K.on hb; clear hb; replace l2 := l2.keep (K.keep_al (F := fun _ => False) (rgRow D a2 n2 c2)); replace m0 := m0.keep (K.keep_al (F := fun _ => False) (rgRow D a2 n2 c2)); replace K := K.al (rgRow D a2 n2 c2))))
              generalize hw3 : w2.alloc (rgRow D a2 n2 c2) = w3 at *
              clear hw3
              generalize w2.heap.size = G2 at *
              have KA : Env w (w3.alloc (.cells #[] 3)) (Env.lst IR (Env.slv w3.heap.size 0 0) 0 [] :: _) := K.empty IR
              have m1 := m0.keep (K.keep_empty IR)
              go_wp2_with (first
                | ((with_reducible refine Plan.load_lit 24 (.tmp 15) (G2) ?_ (K.get 2 rfl) Try.underlying24 ?_ ?_ ?_); (· rfl); (· rfl); (· exact rg_info); simp only [Act.put, List.setIfInBounds_toArray, List.set_cons_zero, List.set_cons_succ])
                | ((with_reducible refine Plan.store_lit 24 (.tmp 6) _ G #[.int .i64 D, .slice a2 n2 c2] (K.get 3 rfl) ?_ ?_ ?_ ?_ ?_ ?_); rotate_left; (· rfl); (· exact rg_info); (· rfl); (· simp [Value.oneCell']); rotate_left; (· rfl); simp only [Act.put]; have k9 := K.keep_put (F := fun _ => False) 3 rfl (cs' := #[.int .i64 D, .slice a2 n2 c2]) rfl; replace l2 := l2.keep k9; replace K := K.put 3 rfl (cs' := #[.int .i64 D, .slice a2 n2 c2]) rfl; clear k9; simp only [List.set] at K l2)
                | (refine KA.apps_list irOk rfl (.tmp 114) (.tmp 115) rfl 0 rfl rfl rfl m1 (by omega) ?_; intro gA cA w4 K9 k9; simp only [List.set, Nat.zero_add, List.nil_append] at K9 k9; simp only [Nat.zero_add, Act.put, List.setIfInBounds_toArray, List.set_cons_zero, List.set_cons_succ]; have KB := K9.al (.cells #[.int .i64 z] 3 (0, 0)); replace l2 := (l2.keep (K.keep_empty IR)).keep (k9 (fun _ => False)); replace l2 := l2.keep (K9.keep_al (.cells #[.int .i64 z] 3 (0, 0))); clear K KA K9 k9 m0 m1)
                | (refine KB.apps_one irOk rfl (.tmp 116) (.tmp 118) rfl 1 0 rfl rfl (e := z) rfl rfl (by omega) ?_; intro gB cB w5 K8 k8; simp only [List.set] at K8 k8; simp only [Act.put, List.setIfInBounds_toArray, List.set_cons_zero, List.set_cons_succ]; replace l2 := l2.keep (k8 (fun _ => False)); clear KB k8; have K := K8; clear K8))
              generalize World.setRow _ _ _ = w6 at *
              go_roundw
              case rel =>
                have k9 := K.keep_sub (F := fun _ => False) (T' := [Env.Thing.box G (rgRow D a2 n2 c2)]) (fun y hy => by rw [List.mem_singleton.1 hy]; exact List.mem_of_getElem? (i := 3) rfl)
                have m9 := (K.settle (F := fun _ => False) irOk 1 rfl).fewer (T' := [Env.Thing.box G (rgRow D a2 n2 c2)]) (fun y hy => by rw [List.mem_singleton.1 hy]; exact List.mem_of_getElem? (i := 2) rfl)
                have hq := l2.length
                rw [List.length_append, List.length_singleton] at hq
                obtain rfl : n2 = rn + 1 := by omega
                exact ⟨j + 1, L ++ [⟨z, 0, 0, ⟨#[]⟩⟩], a2, some ⟨gB, 0, none⟩, rn + 1, c2, cB, by go_num, by omega, rfl, hva, K.sub [3] rfl (by simp) (by simp), l2.keep k9, by rw [serials_add]; exact m9⟩
              case measure => simp [intOf]; omega
            obtain ⟨xw, y2, hwa, hy2, hwc⟩ := m0.at' irOk (rn - 1) (by omega)
            subst hwa
            obtain ⟨y, hy⟩ : ∃ y, L[rn - 1]? = some y := ⟨_, List.getElem?_eq_getElem (by rw [l0.length]; omega)⟩
            have hwl := ir_at m0 (rn - 1) (serials_get hy) (by omega)
            have hyl : L[L.length - 1]? = some y := by rw [l0.length]; exact hy
            have t3 : decide (0 < rn) = true := by simp; omega
            have t4 : (0 : Int) < (rn : Int) := by omega
            have hj1 : IntKind.i64.wrap ((rn : Int) - 1) = ((rn - 1 : Nat) : Int) := by rw [IntWalk.i64_in _ (by omega)]; omega
            have hj2 : rn - 1 < rn := by omega
            clear hy2 hwc hy
            generalize hJ : rn - 1 = J at *
            have hJI : (J : Int) < (rn : Int) := by omega
            clear hJ
            by_cases hq : z ≤ y.serial
            · have e0 := sub_next hv.out hd' hs hyl
              rw [if_pos hq] at e0
              have t5 : decide (z ≤ y.serial) = true := decide_eq_true hq
              have H2 := Lib.hid (fun W F a n c (h : GList W F a n c L) => H.submit F L D a n c z 0 0 ⟨#[]⟩ W h)
              have e1 : submitE D L z = 17 := e0
              rw [sub_stay (x := ⟨z, 0, 0, ⟨#[]⟩⟩) e1 (by decide), e1] at H2
              unfold GPost at H2
              have hvl := hv
              have hml := m0.length
              rw [serials_len] at hml
              clear e1
              clear hd hd' hn e0 hyl
              generalize y.serial = ys at *
              go_upto_region 25 with (first
                | ((with_reducible refine Plan.load_lit 24 (.tmp 6) (G) ?_ (K.get 0 rfl) Try.underlying24 ?_ ?_ ?_); (· rfl); (· rfl); (· exact rg_info); simp only [Act.put, List.setIfInBounds_toArray, List.set_cons_zero, List.set_cons_succ])
                | (go_at_call 11; ((with_reducible refine (H2.out _ _ _ _ _ l0).mono ?_); rintro r9 w2 ⟨a2, n2, c2, rfl, hx, hb⟩; have l2 := TList.result K hb hx; replace m0 := m0.keep (K.keep_on hb); clear hx l0; replace K := K.on hb; clear hb; replace l2 := l2.keep (K.keep_al (F := fun _ => False) (rgRow D a2 n2 c2)); replace m0 := m0.keep (K.keep_al (F := fun _ => False) (rgRow D a2 n2 c2)); replace K := K.al (rgRow D a2 n2 c2))))
              generalize hw3 : w2.alloc (rgRow D a2 n2 c2) = w3 at *
              clear hw3
              generalize w2.heap.size = G2 at *
              go_wp2_with (first
                | ((with_reducible refine Plan.load_lit 24 (.tmp 15) (G2) ?_ (K.get 0 rfl) Try.underlying24 ?_ ?_ ?_); (· rfl); (· rfl); (· exact rg_info); simp only [Act.put, List.setIfInBounds_toArray, List.set_cons_zero, List.set_cons_succ])
                | ((with_reducible refine Plan.store_lit 24 (.tmp 6) _ G #[.int .i64 D, .slice a2 n2 c2] (K.get 1 rfl) ?_ ?_ ?_ ?_ ?_ ?_); rotate_left; (· rfl); (· exact rg_info); (· rfl); (· simp [Value.oneCell']); rotate_left; (· rfl); simp only [Act.put]; have k9 := K.keep_put (F := fun _ => False) 1 rfl (cs' := #[.int .i64 D, .slice a2 n2 c2]) rfl; replace l2 := l2.keep k9; replace m0 := m0.keep k9; replace K := K.put 1 rfl (cs' := #[.int .i64 D, .slice a2 n2 c2]) rfl; clear k9; simp only [List.set] at K l2 m0))
              generalize World.setRow _ _ _ = w6 at *
              go_roundw
              case rel =>
                have k9 := K.keep_sub (F := fun _ => False) (T' := [Env.Thing.box G (rgRow D a2 n2 c2)]) (fun y hy => by rw [List.mem_singleton.1 hy]; exact List.mem_of_getElem? (i := 1) rfl)
                have hq := l2.length
                have hq2 := m0.length
                obtain rfl : n2 = rn := by omega
                exact ⟨j + 1, L, a2, some xw, n2, c2, wc, by go_num, by omega, rfl, Lib.hid hvl.out, K.sub [1] rfl (by simp) (by simp), l2.keep k9, m0.keep k9⟩
              case measure => simp [intOf]; omega
            have e0 := sub_next hv.out hd' hs hyl
            rw [if_neg hq] at e0
            have t5 : decide (z ≤ y.serial) = false := decide_eq_false hq
            have hva := Lib.hid (valid_add (z := ⟨z, 0, 0, ⟨#[]⟩⟩) hv.out (by rw [l0.length]; omega) (by show 0 ≤ z; omega) (fun y9 hy => by rw [hyl] at hy; obtain rfl := Option.some.inj hy; show y.serial < z; omega))
            have H2 := Lib.hid (fun W F a n c (h : GList W F a n c L) => H.submit F L D a n c z 0 0 ⟨#[]⟩ W h)
            have e1 : submitE D L z = 0 := e0
            rw [sub_go (x := ⟨z, 0, 0, ⟨#[]⟩⟩) e1, e1] at H2
            unfold GPost at H2
            have hvl := hv
            have hml := m0.length
            rw [serials_len] at hml
            clear e1
            clear hd hd' hn e0 hyl
            generalize y.serial = ys at *
            go_upto_region 25 with (first
              | ((with_reducible refine Plan.load_lit 24 (.tmp 6) (G) ?_ (K.get 0 rfl) Try.underlying24 ?_ ?_ ?_); (· rfl); (· rfl); (· exact rg_info); simp only [Act.put, List.setIfInBounds_toArray, List.set_cons_zero, List.set_cons_succ])
              | (go_at_call 11; ((with_reducible refine (H2.out _ _ _ _ _ l0).mono ?_); rintro r9 w2 ⟨a2, n2, c2, rfl, hx, hb⟩; have l2 := TList.result K hb hx; replace m0 := m0.keep (K.keep_on hb); clear hx l0; replace K := K.on hb; clear hb; replace l2 := l2.keep (K.keep_al (F := fun _ => False) (rgRow D a2 n2 c2)); replace m0 := m0.keep (K.keep_al (F := fun _ => False) (rgRow D a2 n2 c2)); replace K := K.al (rgRow D a2 n2 c2))))
            generalize hw3 : w2.alloc (rgRow D a2 n2 c2) = w3 at *
            clear hw3
            generalize w2.heap.size = G2 at *
            have KA : Env w (w3.alloc (.cells #[] 3)) (Env.lst IR (Env.slv w3.heap.size 0 0) 0 [] :: _) := K.empty IR
            have m1 := m0.keep (K.keep_empty IR)
            go_wp2_with (first
              | ((with_reducible refine Plan.load_lit 24 (.tmp 15) (G2) ?_ (K.get 2 rfl) Try.underlying24 ?_ ?_ ?_); (· rfl); (· rfl); (· exact rg_info); simp only [Act.put, List.setIfInBounds_toArray, List.set_cons_zero, List.set_cons_succ])
              | ((with_reducible refine Plan.store_lit 24 (.tmp 6) _ G #[.int .i64 D, .slice a2 n2 c2] (K.get 3 rfl) ?_ ?_ ?_ ?_ ?_ ?_); rotate_left; (· rfl); (· exact rg_info); (· rfl); (· simp [Value.oneCell']); rotate_left; (· rfl); simp only [Act.put]; have k9 := K.keep_put (F := fun _ => False) 3 rfl (cs' := #[.int .i64 D, .slice a2 n2 c2]) rfl; replace l2 := l2.keep k9; replace K := K.put 3 rfl (cs' := #[.int .i64 D, .slice a2 n2 c2]) rfl; clear k9; simp only [List.set] at K l2)
              | (refine KA.apps_list irOk rfl (.tmp 114) (.tmp 115) rfl 0 rfl rfl rfl m1 (by omega) ?_; intro gA cA w4 K9 k9; simp only [List.set, Nat.zero_add, List.nil_append] at K9 k9; simp only [Nat.zero_add, Act.put, List.setIfInBounds_toArray, List.set_cons_zero, List.set_cons_succ]; have KB := K9.al (.cells #[.int .i64 z] 3 (0, 0)); replace l2 := (l2.keep (K.keep_empty IR)).keep (k9 (fun _ => False)); replace l2 := l2.keep (K9.keep_al (.cells #[.int .i64 z] 3 (0, 0))); clear K KA K9 k9 m0 m1)
              | (refine KB.apps_one irOk rfl (.tmp 116) (.tmp 118) rfl 1 0 rfl rfl (e := z) rfl rfl (by omega) ?_; intro gB cB w5 K8 k8; simp only [List.set] at K8 k8; simp only [Act.put, List.setIfInBounds_toArray, List.set_cons_zero, List.set_cons_succ]; replace l2 := l2.keep (k8 (fun _ => False)); clear KB k8; have K := K8; clear K8))
            generalize World.setRow _ _ _ = w6 at *
            go_roundw
            case rel =>
              have k9 := K.keep_sub (F := fun _ => False) (T' := [Env.Thing.box G (rgRow D a2 n2 c2)]) (fun y hy => by rw [List.mem_singleton.1 hy]; exact List.mem_of_getElem? (i := 3) rfl)
              have m9 := (K.settle (F := fun _ => False) irOk 1 rfl).fewer (T' := [Env.Thing.box G (rgRow D a2 n2 c2)]) (fun y hy => by rw [List.mem_singleton.1 hy]; exact List.mem_of_getElem? (i := 2) rfl)
              have hq := l2.length
              rw [List.length_append, List.length_singleton] at hq
              obtain rfl : n2 = rn + 1 := by omega
              exact ⟨j + 1, L ++ [⟨z, 0, 0, ⟨#[]⟩⟩], a2, some ⟨gB, 0, none⟩, rn + 1, c2, cB, by go_num, by omega, rfl, hva, K.sub [3] rfl (by simp) (by simp), l2.keep k9, by rw [serials_add]; exact m9⟩
            case measure => simp [intOf]; omega
        · skip
          by_cases hn : rn = 0
          · skip
            have hb0 : takeB D L = false := by rw [take_is hv.out, l0.length, hn]; rfl
            have e9 := take_no hb0
            have H4 := Lib.hid (fun W F a n c (h : GList W F a n c L) => H.take F L D a n c W h)
            rw [hb0, e9.1, e9.2] at H4
            unfold TPost at H4
            simp only [rq0] at H4
            have t1 : ¬ (0 : Int) < (rn : Int) := by omega
            have t2 : decide (0 < rn) = false := by simp; omega
            have hvl := hv
            have hml := m0.length
            clear hb0 e9 hn
            go_upto_region 11 with (first
              | ((with_reducible refine Plan.load_lit 24 (.tmp 6) (G) ?_ (K.get 0 rfl) Try.underlying24 ?_ ?_ ?_); (· rfl); (· rfl); (· exact rg_info); simp only [Act.put, List.setIfInBounds_toArray, List.set_cons_zero, List.set_cons_succ])
              | (go_at_call 10; ((with_reducible refine (H4.out _ _ _ _ _ l0).mono ?_); rintro r9 w2 ⟨a2, n2, c2, rfl, hx, hb⟩; have l2 := TList.result K hb hx; replace m0 := m0.keep (K.keep_on hb); clear hx l0; replace K := K.on hb; clear hb; replace l2 := l2.keep (K.keep_al (F := fun _ => False) (rgRow D a2 n2 c2)); replace m0 := m0.keep (K.keep_al (F := fun _ => False) (rgRow D a2 n2 c2)); replace K := K.al (rgRow D a2 n2 c2); replace l2 := l2.keep (K.keep_al (F := fun _ => False) (.cells #[.int .i64 0, .int .i64 0, .int .i64 0, .string ⟨#[]⟩] 28)); replace m0 := m0.keep (K.keep_al (F := fun _ => False) (.cells #[.int .i64 0, .int .i64 0, .int .i64 0, .string ⟨#[]⟩] 28)); replace K := K.al (.cells #[.int .i64 0, .int .i64 0, .int .i64 0, .string ⟨#[]⟩] 28))))
            simp only [World.size_alloc] at K l2 m0
            generalize hw3 : (w2.alloc (rgRow D a2 n2 c2)).alloc (.cells #[.int .i64 0, .int .i64 0, .int .i64 0, .string ⟨#[]⟩] 28) = w3 at *
            clear hw3
            generalize w2.heap.size = G2 at *
            refine Plan.start (fun W => W.cell? ⟨G2 + 1, 0, none⟩ = some (.int .i64 0)) [(0, true), (1, true), (2, true), (3, true), (4, true), (5, true), (6, true), (7, true), (8, true), (9, true), (10, true), (11, true), (12, true), (13, true), (14, true), (15, true)] (by kernel_rfl) (by kernel_rfl) (by kernel_rfl) (by kernel_rfl) (rq4 (K.drew.get 0 rfl)) ?_
            simp only [List.map_cons, List.map_nil, List.getElem?_toArray, List.getElem?_cons_zero, List.getElem?_cons_succ]
            replace l2 := l2.keep K.keep_drew
            replace m0 := m0.keep K.keep_drew
            replace K := K.drew
            generalize w3.drew = w4 at *
            repeat (first | (refine Plan.take ?_ (by rfl) ?_ ?_; rotate_left; (· rintro w9 u0; go_simp; (try rw [if_neg (by omega)]); all_goals (with_reducible rfl)); simp only [Act.put, List.setIfInBounds_toArray, List.set_cons_zero, List.set_cons_succ]) | (refine Plan.pass (by rfl) ?_; simp only [Act.put, List.setIfInBounds_toArray, List.set_cons_zero, List.set_cons_succ]))
            refine Plan.ends ?_
            go_wp2_with (first
              | ((with_reducible refine Plan.load_lit 24 (.tmp 10) (G2) ?_ (K.get 1 rfl) Try.underlying24 ?_ ?_ ?_); (· rfl); (· rfl); (· exact rg_info); simp only [Act.put, List.setIfInBounds_toArray, List.set_cons_zero, List.set_cons_succ])
              | ((with_reducible refine Plan.store_lit 24 (.tmp 6) _ G #[.int .i64 D, .slice a2 n2 c2] (K.get 2 rfl) ?_ ?_ ?_ ?_ ?_ ?_); rotate_left; (· rfl); (· exact rg_info); (· rfl); (· simp [Value.oneCell']); rotate_left; (· rfl); simp only [Act.put]; have k9 := K.keep_put (F := fun _ => False) 2 rfl (cs' := #[.int .i64 D, .slice a2 n2 c2]) rfl; replace l2 := l2.keep k9; replace m0 := m0.keep k9; replace K := K.put 2 rfl (cs' := #[.int .i64 D, .slice a2 n2 c2]) rfl; clear k9; simp only [List.set] at K l2 m0))
            generalize World.setRow _ _ _ = w6 at *
            go_roundw
            case rel =>
              have k9 := K.keep_sub (F := fun _ => False) (T' := [Env.Thing.box G (rgRow D a2 n2 c2)]) (fun y hy => by rw [List.mem_singleton.1 hy]; exact List.mem_of_getElem? (i := 2) rfl)
              have hq := l2.length
              have hq2 := m0.length
              obtain rfl : n2 = rn := by rw [serials_len] at hq2; omega
              exact ⟨j + 1, L, a2, wa, n2, c2, wc, by go_num, by omega, rfl, Lib.hid hvl.out, K.sub [2] rfl (by simp) (by simp), l2.keep k9, m0.keep k9⟩
            case measure => simp [intOf]; omega
          · skip
            obtain ⟨y, hy⟩ : ∃ y, L[0]? = some y := ⟨_, List.getElem?_eq_getElem (by rw [l0.length]; omega)⟩
            obtain ⟨xw, y2, hwa, _, _⟩ := m0.at' irOk 0 (by omega)
            subst hwa
            have hs0 := serials_get hy
            have hb0 : takeB D L = true := by rw [take_is hv.out, l0.length]; simp; omega
            have e9 := take_yes hb0 hy
            have H4 := Lib.hid (fun W F a n c (h : GList W F a n c L) => H.take F L D a n c W h)
            rw [hb0, e9.1, e9.2] at H4
            unfold TPost at H4
            obtain ⟨ys, yk, yb, yd⟩ := y
            simp only at H4 hs0
            have hvd := Lib.hid (valid_drop hv.out)
            have hrn0 : 0 < rn := by omega
            have hfirst := Lib.hid (fun W F (h : TList IR W F (some xw) rn wc (serials L)) => (show W.cell? xw = some (.int .i64 ys) from by
              have h9 := ir_at h 0 hs0 hrn0
              rwa [Addr.add_zero'] at h9))
            have t1 : (0 : Int) < (rn : Int) := by omega
            have t2 : decide (0 < rn) = true := by simp; omega
            have hcp := m0.cap
            unfold maxLen at hcp
            have hn1 : 1 ≤ rn := by omega
            have hml := m0.length
            clear hb0 e9 hn hy
            by_cases hc1 : wc = 1
            · subst hc1
              obtain rfl : rn = 1 := by omega
              go_upto_region 11 with (first
                | ((with_reducible refine Plan.load_lit 24 (.tmp 6) (G) ?_ (K.get 0 rfl) Try.underlying24 ?_ ?_ ?_); (· rfl); (· rfl); (· exact rg_info); simp only [Act.put, List.setIfInBounds_toArray, List.set_cons_zero, List.set_cons_succ])
                | (go_at_call 10; ((with_reducible refine (H4.out _ _ _ _ _ l0).mono ?_); rintro r9 w2 ⟨a2, n2, c2, rfl, hx, hb⟩; have l2 := TList.result K hb hx; replace m0 := m0.keep (K.keep_on hb); clear hx l0; replace K := K.on hb; clear hb; replace l2 := l2.keep (K.keep_al (F := fun _ => False) (rgRow D a2 n2 c2)); replace m0 := m0.keep (K.keep_al (F := fun _ => False) (rgRow D a2 n2 c2)); replace K := K.al (rgRow D a2 n2 c2); replace l2 := l2.keep (K.keep_al (F := fun _ => False) (.cells #[.int .i64 ys, .int .i64 yk, .int .i64 yb, .string yd] 28)); replace m0 := m0.keep (K.keep_al (F := fun _ => False) (.cells #[.int .i64 ys, .int .i64 yk, .int .i64 yb, .string yd] 28)); replace K := K.al (.cells #[.int .i64 ys, .int .i64 yk, .int .i64 yb, .string yd] 28))))
              simp only [World.size_alloc] at K l2 m0
              generalize hw3 : (w2.alloc (rgRow D a2 n2 c2)).alloc (.cells #[.int .i64 ys, .int .i64 yk, .int .i64 yb, .string yd] 28) = w3 at *
              clear hw3
              generalize w2.heap.size = G2 at *
              refine Plan.start (fun W => W.cell? ⟨G2 + 1, 0, none⟩ = some (.int .i64 ys) ∧ W.cell? xw = some (.int .i64 ys)) [(0, true), (1, true), (2, true), (3, true), (4, true), (5, true), (6, true), (7, true), (8, true), (9, true), (10, true), (11, true), (12, true), (13, true), (14, true), (15, true)] (by kernel_rfl) (by kernel_rfl) (by kernel_rfl) (by kernel_rfl) ⟨(rq4 (K.drew.get 0 rfl)), hfirst.out _ _ (m0.keep K.keep_drew)⟩ ?_
              simp only [List.map_cons, List.map_nil, List.getElem?_toArray, List.getElem?_cons_zero, List.getElem?_cons_succ]
              replace l2 := l2.keep K.keep_drew
              replace m0 := m0.keep K.keep_drew
              replace K := K.drew
              generalize w3.drew = w4 at *
              repeat (first | (refine Plan.take ?_ (by rfl) ?_ ?_; rotate_left; (· rintro w9 ⟨u0, u1⟩; go_simp; (try rw [if_neg (by omega)]); all_goals (with_reducible rfl)); simp only [Act.put, List.setIfInBounds_toArray, List.set_cons_zero, List.set_cons_succ]) | (refine Plan.pass (by rfl) ?_; simp only [Act.put, List.setIfInBounds_toArray, List.set_cons_zero, List.set_cons_succ]))
              refine Plan.ends ?_
              go_wp2_with (first
                | ((with_reducible refine Plan.load_lit 24 (.tmp 10) (G2) ?_ (K.get 1 rfl) Try.underlying24 ?_ ?_ ?_); (· rfl); (· rfl); (· exact rg_info); simp only [Act.put, List.setIfInBounds_toArray, List.set_cons_zero, List.set_cons_succ])
                | ((with_reducible refine Plan.store_lit 24 (.tmp 6) _ G #[.int .i64 D, .slice a2 n2 c2] (K.get 2 rfl) ?_ ?_ ?_ ?_ ?_ ?_); rotate_left; (· rfl); (· exact rg_info); (· rfl); (· simp [Value.oneCell']); rotate_left; (· rfl); simp only [Act.put]; have k9 := K.keep_put (F := fun _ => False) 2 rfl (cs' := #[.int .i64 D, .slice a2 n2 c2]) rfl; replace l2 := l2.keep k9; replace m0 := m0.keep k9; replace K := K.put 2 rfl (cs' := #[.int .i64 D, .slice a2 n2 c2]) rfl; clear k9; simp only [List.set] at K l2 m0))
              generalize World.setRow _ _ _ = w6 at *
              go_roundw
              case rel =>
                have k9 := K.keep_sub (F := fun _ => False) (T' := [Env.Thing.box G (rgRow D a2 n2 c2)]) (fun y hy => by rw [List.mem_singleton.1 hy]; exact List.mem_of_getElem? (i := 2) rfl)
                have hq := l2.length
                have hq2 := m0.length
                obtain rfl : n2 = 1 - 1 := by rw [serials_len] at hq2; rw [List.length_drop] at hq; omega
                have m9 := tail_list irOk (m0.keep k9) hrn0
                rw [if_pos rfl, ← serials_drop] at m9
                exact ⟨j + 1, L.drop 1, a2, some xw, 1 - 1, c2, 0, by go_num, by omega, rfl, Lib.hid hvd.out, K.sub [2] rfl (by simp) (by simp), l2.keep k9, m9⟩
              case measure => simp [intOf]; omega
            · skip
              go_upto_region 11 with (first
                | ((with_reducible refine Plan.load_lit 24 (.tmp 6) (G) ?_ (K.get 0 rfl) Try.underlying24 ?_ ?_ ?_); (· rfl); (· rfl); (· exact rg_info); simp only [Act.put, List.setIfInBounds_toArray, List.set_cons_zero, List.set_cons_succ])
                | (go_at_call 10; ((with_reducible refine (H4.out _ _ _ _ _ l0).mono ?_); rintro r9 w2 ⟨a2, n2, c2, rfl, hx, hb⟩; have l2 := TList.result K hb hx; replace m0 := m0.keep (K.keep_on hb); clear hx l0; replace K := K.on hb; clear hb; replace l2 := l2.keep (K.keep_al (F := fun _ => False) (rgRow D a2 n2 c2)); replace m0 := m0.keep (K.keep_al (F := fun _ => False) (rgRow D a2 n2 c2)); replace K := K.al (rgRow D a2 n2 c2); replace l2 := l2.keep (K.keep_al (F := fun _ => False) (.cells #[.int .i64 ys, .int .i64 yk, .int .i64 yb, .string yd] 28)); replace m0 := m0.keep (K.keep_al (F := fun _ => False) (.cells #[.int .i64 ys, .int .i64 yk, .int .i64 yb, .string yd] 28)); replace K := K.al (.cells #[.int .i64 ys, .int .i64 yk, .int .i64 yb, .string yd] 28))))
              simp only [World.size_alloc] at K l2 m0
              generalize hw3 : (w2.alloc (rgRow D a2 n2 c2)).alloc (.cells #[.int .i64 ys, .int .i64 yk, .int .i64 yb, .string yd] 28) = w3 at *
              clear hw3
              generalize w2.heap.size = G2 at *
              refine Plan.start (fun W => W.cell? ⟨G2 + 1, 0, none⟩ = some (.int .i64 ys) ∧ W.cell? xw = some (.int .i64 ys)) [(0, true), (1, true), (2, true), (3, true), (4, true), (5, true), (6, true), (7, true), (8, true), (9, true), (10, true), (11, true), (12, true), (13, true), (14, true), (15, true)] (by kernel_rfl) (by kernel_rfl) (by kernel_rfl) (by kernel_rfl) ⟨(rq4 (K.drew.get 0 rfl)), hfirst.out _ _ (m0.keep K.keep_drew)⟩ ?_
              simp only [List.map_cons, List.map_nil, List.getElem?_toArray, List.getElem?_cons_zero, List.getElem?_cons_succ]
              replace l2 := l2.keep K.keep_drew
              replace m0 := m0.keep K.keep_drew
              replace K := K.drew
              generalize w3.drew = w4 at *
              repeat (first | (refine Plan.take ?_ (by rfl) ?_ ?_; rotate_left; (· rintro w9 ⟨u0, u1⟩; go_simp; (try rw [if_neg (by omega)]); all_goals (with_reducible rfl)); simp only [Act.put, List.setIfInBounds_toArray, List.set_cons_zero, List.set_cons_succ]) | (refine Plan.pass (by rfl) ?_; simp only [Act.put, List.setIfInBounds_toArray, List.set_cons_zero, List.set_cons_succ]))
              refine Plan.ends ?_
              go_wp2_with (first
                | ((with_reducible refine Plan.load_lit 24 (.tmp 10) (G2) ?_ (K.get 1 rfl) Try.underlying24 ?_ ?_ ?_); (· rfl); (· rfl); (· exact rg_info); simp only [Act.put, List.setIfInBounds_toArray, List.set_cons_zero, List.set_cons_succ])
                | ((with_reducible refine Plan.store_lit 24 (.tmp 6) _ G #[.int .i64 D, .slice a2 n2 c2] (K.get 2 rfl) ?_ ?_ ?_ ?_ ?_ ?_); rotate_left; (· rfl); (· exact rg_info); (· rfl); (· simp [Value.oneCell']); rotate_left; (· rfl); simp only [Act.put]; have k9 := K.keep_put (F := fun _ => False) 2 rfl (cs' := #[.int .i64 D, .slice a2 n2 c2]) rfl; replace l2 := l2.keep k9; replace m0 := m0.keep k9; replace K := K.put 2 rfl (cs' := #[.int .i64 D, .slice a2 n2 c2]) rfl; clear k9; simp only [List.set] at K l2 m0))
              generalize World.setRow _ _ _ = w6 at *
              go_roundw
              case rel =>
                have k9 := K.keep_sub (F := fun _ => False) (T' := [Env.Thing.box G (rgRow D a2 n2 c2)]) (fun y hy => by rw [List.mem_singleton.1 hy]; exact List.mem_of_getElem? (i := 2) rfl)
                have hq := l2.length
                have hq2 := m0.length
                obtain rfl : n2 = rn - 1 := by rw [serials_len] at hq2; rw [List.length_drop] at hq; omega
                have m9 := tail_list irOk (m0.keep k9) hrn0
                rw [if_neg hc1, ← serials_drop, show xw.add IR.sz = ⟨xw.block, xw.off + 1, none⟩ from by unfold Addr.add; simp [IR]] at m9
                exact ⟨j + 1, L.drop 1, a2, some ⟨xw.block, xw.off + 1, none⟩, rn - 1, c2, wc - 1, by go_num, by omega, rfl, Lib.hid hvd.out, K.sub [2] rfl (by simp) (by simp), l2.keep k9, m9⟩
              case measure => simp [intOf]; omega
      · obtain rfl : j = n := by omega
        have hjI : ¬ (j : Int) < (j : Int) := by omega
        go_wp2_with (first
          | (go_at_call 5; ((with_reducible refine (HW.out _).mono ?_); rintro r9 w5 ⟨rfl, hb⟩; replace K := K.on hb; clear hb)))
        go_ret
        exact ⟨rfl, K.hb⟩
  · have d1 : (100 : Int) < (n : Int) := by omega
    have K := Env.start w
    go_enter Try.func4, Try.ntmps4
    go_wp2_with (first
      | (go_at_call 5; ((with_reducible refine (HW.out _).mono ?_); rintro r9 w5 ⟨rfl, hb⟩; replace K := K.on hb; clear hb)))
    go_ret
    exact ⟨rfl, K.hb⟩
end Go.Proofs.Ytljdepnhhngbeaa.Ents
