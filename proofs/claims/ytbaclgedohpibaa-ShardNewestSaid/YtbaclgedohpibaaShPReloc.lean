
/- The walk of the program's Relocate. -/
import Derived.Test.YtbaclgedohpibaaShPInst
namespace Go.Proofs.Ytbaclgedohpibaa.Ents
open Go.RowKit Plan EntMath
theorem sc_row {w : World} {g j : Nat} {cs : Array Value} {t : TypeId} {fr : Nat × Nat} {u : Value} (h : w.heap[g]? = some (.cells cs t fr)) : (w.setCell ⟨g, j, none⟩ u).heap[g]? = some (.cells (cs.setIfInBounds j u) t fr) := by
  rw [setCell_eq_setRow w g j cs t fr u h]
  exact setRow_heap w g cs _ t fr h
theorem ok_moved_iff {x : Ent} {tz to m : Int} (h : okE x = true) : okE (moved x tz to m) = true ↔ 0 ≤ tz ∧ 0 ≤ to ∧ 0 ≤ m ∧ m ≤ 255 := by
  have h1 := ok_iff.1 h
  constructor
  · intro h2
    have h3 := ok_iff.1 h2
    unfold moved at h3
    simp only at h3
    omega
  · rintro ⟨h2, h3, h4, h5⟩
    exact ok_moved h h2 h3 h4 h5
theorem e_free {w : World} {g : Nat} {cs : Array Value} {t : TypeId} (h : w.heap[g]? = some (.cells cs t (0, 0))) (o : Nat) : w.frozen? ⟨g, o, none⟩ = false := by simp [World.frozen?, h]
set_option maxHeartbeats 4000000 in
set_option maxRecDepth 20000 in
theorem relocate_any (F : Nat → Prop) (L : List Ent) (b v fz fo tz to m : Int) (a : Option Addr) (len cap : Nat) (w : World) (hl : EList w F a len cap L) (hm : len ≤ 800000) :
    Calls Try.prog 21 #[.slice a len cap, .int .i64 b, .int .i64 v, .agg #[.int .i64 fz, .int .i64 fo], .agg #[.int .i64 tz, .int .i64 to], .int .i64 m] w (RelPost w F (relocL L b v fz fo tz to m) (moves L b v fz fo tz to m)) := by
  have hlen := hl.length
  have hA := ((Below.refl w.heap.size w).alloc (Nat.le_refl _) (placeRow fz fo)).alloc (by simp) (placeRow tz to)
  have hr0 := heap_second w (placeRow fz fo) (placeRow tz to)
  have hx0 := heap_first w (placeRow fz fo) (placeRow tz to)
  have hlow := fun W (h : Below w.heap.size w W) => hl.low.on (Same.low h)
  have HV := Lib.hid (fun W h => valid_any _ L a len cap W (hlow W h))
  have hend := fun W (h : Below w.heap.size w W) => (show EList W (Plus F w.heap.size) a len cap L from (hl.cut.on (Same.below (w' := W) h)).mono (fun b _ h => .inl h.1))
  have HEND := Lib.hid hend
  have HL := Lib.hid hl
  clear hend hl
  cases hva : validB L
  · obtain ⟨r1, r2⟩ := rel_a (b := b) (v := v) (fz := fz) (fo := fo) (tz := tz) (to := to) (m := m) hva
    rw [r1, r2]
    rw [hva] at HV
    clear r1 r2 hva hlow
    go_enter Try.func21, Try.ntmps21
    generalize hw0 : (w.alloc (placeRow fz fo)).alloc (placeRow tz to) = w0 at *
    go_wp2_with (first
      | (go_at_call 22; ((with_reducible refine (HV.out _ hA).mono ?_); rintro e9 w1 ⟨rfl, hb1⟩; have hr1 := e_on hb1 hr0 (e_lt hr0); have hx1 := e_on hb1 hx0 (e_lt hx0); have b1 := hA.trans (hb1.mono hA.size))))
    go_ret2
    exact ⟨_, _, _, rfl, EList.nil _ _, b1⟩
  · rw [hva] at HV
    have hasc := (valid_iff.1 hva).2
    have hfl := find_look hva b
    have HI := Lib.hid (fun W (h : Below w.heap.size w W) => index_any _ L b a len cap W (hlow W h) hasc (by omega))
    unfold IndexPost at HI
    cases hlk : lookE L b with
    | none =>
      rw [hlk] at HI hfl
      have hm0 := rel_none (v := v) (fz := fz) (fo := fo) (tz := tz) (to := to) (m := m) hfl
      rw [rel_no hva hm0, hm0]
      clear hm0 hlow hva hasc hlk hfl
      generalize place L b = k at *
      go_enter Try.func21, Try.ntmps21
      generalize hw0 : (w.alloc (placeRow fz fo)).alloc (placeRow tz to) = w0 at *
      go_wp2_with (first
        | (go_at_call 22; ((with_reducible refine (HV.out _ hA).mono ?_); rintro e9 w1 ⟨rfl, hb1⟩; have hr1 := e_on hb1 hr0 (e_lt hr0); have hx1 := e_on hb1 hx0 (e_lt hx0); have b1 := hA.trans (hb1.mono hA.size)))
        | (go_at_call 30; ((with_reducible refine (HI.out _ b1).mono ?_); rintro e9 w2 ⟨rfl, hb2⟩; have hr2 := e_on hb2 hr1 (e_lt hr1); have hx2 := e_on hb2 hx1 (e_lt hx1); have b2 := b1.trans (hb2.mono b1.size))))
      refine Plan.start (fun W => True) [(0, true), (1, true), (2, true), (3, true), (4, true), (5, true), (6, true), (7, true), (8, true), (9, true), (10, true), (11, true), (12, true), (13, true), (14, true), (15, true), (16, true), (17, true), (18, true), (19, true)] (by kernel_rfl) (by kernel_rfl) (by kernel_rfl) (by kernel_rfl) trivial ?_
      simp only [List.map_cons, List.map_nil, List.getElem?_toArray, List.getElem?_cons_zero, List.getElem?_cons_succ]
      repeat (first | (refine Plan.take ?_ (by rfl) ?_ ?_; rotate_left; (· rintro w9 -; go_simp; (try rw [if_neg (by omega)]); all_goals (with_reducible rfl)); simp only [Act.put, List.setIfInBounds_toArray, List.set_cons_zero, List.set_cons_succ]) | (refine Plan.pass (by rfl) ?_; simp only [Act.put, List.setIfInBounds_toArray, List.set_cons_zero, List.set_cons_succ]))
      refine Plan.ends ?_
      have b3 := b2.drew
      go_wp2_with fail
      go_ret2
      exact ⟨_, _, _, rfl, HEND.out _ b3, b3⟩
    | some y =>
      rw [hlk] at HI hfl
      have hyok := (valid_iff.1 hva).1 y (look_mem hlk)
      have hmv := @rel_some L b v fz fo tz to m y hfl
      have hn := fun h => @rel_no L b v fz fo tz to m hva h
      have hyy := fun h => @rel_yes L b v fz fo tz to m y hva hlk h
      have hat := place_some hasc hlk
      have hin := place_in hasc hlk
      rw [hlen] at hin
      have hc := fun W (h : Below w.heap.size w W) => (show ∃ x, a = some x ∧ EntAt W x (place L b) y from by
        obtain ⟨x, e', rfl, he', h'⟩ := (hlow W h).ent (place L b) hin
        rw [hat] at he'
        obtain rfl := Option.some.inj he'
        exact ⟨x, rfl, h'⟩)
      obtain ⟨x, rfl, -⟩ := hc w (Below.refl _ _)
      have HY := Lib.hid (fun W (h : Below w.heap.size w W) => (show EntAt W x (place L b) y from by
        obtain ⟨x', hx', h'⟩ := hc W h
        obtain rfl := Option.some.inj hx'
        exact h'))
      have HW := Lib.hid (fun W (h : Below w.heap.size w W) => with_any _ L (moved y tz to m) x len cap (place L b) W ((HL.out.cut).on (Same.below h)) hin (by omega))
      have HE := Lib.hid (fun W => possible_any (moved y tz to m) W)
      have hoi := @ok_moved_iff y tz to m hyok
      unfold ListPost at HW
      generalize relocL L b v fz fo tz to m = RL at *
      generalize moves L b v fz fo tz to m = M at *
      generalize place L b = k at *
      have hkI : (k : Int) < (len : Int) := by omega
      have HMV := Lib.hid hmv
      have HN := Lib.hid hn
      have HYY := Lib.hid hyy
      clear hmv hn hyy hva hlk hat hc hfl hasc hlow hyok
      obtain ⟨yb, yk, yv, ym, yz, yo⟩ := y
      unfold moved at HW HE hoi HYY
      try simp only at HMV HYY HW HE HY hoi
      have HNO : RowKit.Hid (¬ (yv = v ∧ yz = fz ∧ yo = fo ∧ 0 ≤ tz ∧ 0 ≤ to ∧ 0 ≤ m ∧ m ≤ 255) → M = false) := Lib.hid (fun h => by
        cases M
        · rfl
        · exact absurd (HMV.out.1 rfl) h)
      by_cases h1 : yv = v
      · subst h1
        have t1 : (yv != yv) = false := by simp
        by_cases h2 : yz = fz
        · subst h2
          by_cases h3 : yo = fo
          · subst h3
            cases hoo : okE ⟨yb, yk, yv, m, tz, to⟩
            · have HM : RowKit.Hid (M = false) := Lib.hid (HNO.out (fun h => by rw [hoi.2 ⟨by omega, by omega, by omega, by omega⟩] at hoo; cases hoo))
              rw [hoo] at HE
              clear hoo hoi HNO HMV
              go_enter Try.func21, Try.ntmps21
              generalize hw0 : (w.alloc (placeRow yz yo)).alloc (placeRow tz to) = w0 at *
              go_wp2_with (first
                | (go_at_call 22; ((with_reducible refine (HV.out _ hA).mono ?_); rintro e9 w1 ⟨rfl, hb1⟩; have hr1 := e_on hb1 hr0 (e_lt hr0); have hx1 := e_on hb1 hx0 (e_lt hx0); have b1 := hA.trans (hb1.mono hA.size)))
                | (go_at_call 30; ((with_reducible refine (HI.out _ b1).mono ?_); rintro e9 w2 ⟨rfl, hb2⟩; have hr2 := e_on hb2 hr1 (e_lt hr1); have hx2 := e_on hb2 hx1 (e_lt hx1); have b2 := b1.trans (hb2.mono b1.size); have hy2 := HY.out _ b2; obtain ⟨y0, y1, y2, y3, y4, y5⟩ := HY.out _ b2; obtain ⟨c0, c1⟩ := place_row hx2)))
              refine Plan.start (fun W => EntAt W x k ⟨yb, yk, yv, ym, yz, yo⟩ ∧ W.cell? ⟨w.heap.size, 0, none⟩ = some (.int .i64 yz) ∧ W.cell? ⟨w.heap.size, 1, none⟩ = some (.int .i64 yo)) [(0, true), (1, true), (2, true), (3, true), (4, true), (5, true), (6, true), (7, true), (8, true), (9, true), (10, true), (11, true), (12, true), (13, true), (14, true), (15, true), (16, true), (17, true), (18, true), (19, true)] (by kernel_rfl) (by kernel_rfl) (by kernel_rfl) (by kernel_rfl) ⟨hy2, c0, c1⟩ ?_
              simp only [List.map_cons, List.map_nil, List.getElem?_toArray, List.getElem?_cons_zero, List.getElem?_cons_succ]
              repeat (first | (refine Plan.take ?_ (by rfl) ?_ ?_; rotate_left; (· rintro w9 ⟨⟨u0, u1, u2, u3, u4, u5⟩, v0, v1⟩; go_simp; (try rw [if_neg (by omega)]); all_goals (with_reducible rfl)); simp only [Act.put, List.setIfInBounds_toArray, List.set_cons_zero, List.set_cons_succ]) | (refine Plan.pass (by rfl) ?_; simp only [Act.put, List.setIfInBounds_toArray, List.set_cons_zero, List.set_cons_succ]))
              refine Plan.ends ?_
              have b3 := b2.drew
              have hr3 : w2.drew.heap[w.heap.size + 1]? = some (placeRow tz to) := hr2
              obtain ⟨y0, y1, y2, y3, y4, y5⟩ := HY.out _ b3
              generalize w2.drew = w3 at *
              have hg4 := heap_alloc_new w3 (entRow yb yk yv ym yz yo)
              have b4 := b3.alloc b3.size (entRow yb yk yv ym yz yo)
              have hr4 := e_al hr3 (entRow yb yk yv ym yz yo)
              obtain ⟨d0, d1⟩ := place_row hr4
              obtain ⟨g0, g1, g2, g3, g4, g5⟩ := entry_row hg4
              have f3 : (w3.alloc (entRow yb yk yv ym yz yo)).frozen? ⟨w3.heap.size, 3, none⟩ = false := e_free hg4 3
              have f4 : (w3.alloc (entRow yb yk yv ym yz yo)).frozen? ⟨w3.heap.size, 4, none⟩ = false := e_free hg4 4
              have f5 : (w3.alloc (entRow yb yk yv ym yz yo)).frozen? ⟨w3.heap.size, 5, none⟩ = false := e_free hg4 5
              have k3 := heap_alloc_new w3 (entRow yb yk yv m tz to)
              have b5 := b3.alloc b3.size (entRow yb yk yv m tz to)
              clear hg4
              go_wp2_with (first
                | ((with_reducible refine Plan.load_lit 26 (.tmp 16) w3.heap.size ?_ k3 Try.underlying26 ?_ ?_ ?_); (· rfl); (· rfl); (· exact entry_info); simp only [Act.put, List.setIfInBounds_toArray, List.set_cons_zero, List.set_cons_succ])
                | (go_at_call 29; ((with_reducible refine (HE.out _).mono ?_); rintro e9 w6 ⟨rfl, hb6⟩; have k6 := e_on hb6 k3 (e_lt k3); have b6 := b5.trans (hb6.mono b5.size)))
                | ((with_reducible refine Plan.load_lit 26 (.tmp 16) w3.heap.size ?_ k6 Try.underlying26 ?_ ?_ ?_); (· rfl); (· rfl); (· exact entry_info); simp only [Act.put, List.setIfInBounds_toArray, List.set_cons_zero, List.set_cons_succ])
                | (go_at_call 33; ((with_reducible refine (HW.out _ b6).mono ?_); rintro e9 w7 ⟨a7, n7, c7, rfl, hl7, hb7⟩; have b7 := b6.trans (hb7.mono b6.size))))
              go_ret2
              exact ⟨_, _, _, by rw [HM.out]; rfl, by rw [HN.out HM.out]; exact HEND.out _ b6, b6⟩
            · have h4 := hoi.1 hoo
              have HM : RowKit.Hid (M = true) := Lib.hid (HMV.out.2 ⟨by trivial, by trivial, by trivial, h4⟩)
              rw [hoo] at HE
              clear hoo hoi HNO HMV h4
              go_enter Try.func21, Try.ntmps21
              generalize hw0 : (w.alloc (placeRow yz yo)).alloc (placeRow tz to) = w0 at *
              go_wp2_with (first
                | (go_at_call 22; ((with_reducible refine (HV.out _ hA).mono ?_); rintro e9 w1 ⟨rfl, hb1⟩; have hr1 := e_on hb1 hr0 (e_lt hr0); have hx1 := e_on hb1 hx0 (e_lt hx0); have b1 := hA.trans (hb1.mono hA.size)))
                | (go_at_call 30; ((with_reducible refine (HI.out _ b1).mono ?_); rintro e9 w2 ⟨rfl, hb2⟩; have hr2 := e_on hb2 hr1 (e_lt hr1); have hx2 := e_on hb2 hx1 (e_lt hx1); have b2 := b1.trans (hb2.mono b1.size); have hy2 := HY.out _ b2; obtain ⟨y0, y1, y2, y3, y4, y5⟩ := HY.out _ b2; obtain ⟨c0, c1⟩ := place_row hx2)))
              refine Plan.start (fun W => EntAt W x k ⟨yb, yk, yv, ym, yz, yo⟩ ∧ W.cell? ⟨w.heap.size, 0, none⟩ = some (.int .i64 yz) ∧ W.cell? ⟨w.heap.size, 1, none⟩ = some (.int .i64 yo)) [(0, true), (1, true), (2, true), (3, true), (4, true), (5, true), (6, true), (7, true), (8, true), (9, true), (10, true), (11, true), (12, true), (13, true), (14, true), (15, true), (16, true), (17, true), (18, true), (19, true)] (by kernel_rfl) (by kernel_rfl) (by kernel_rfl) (by kernel_rfl) ⟨hy2, c0, c1⟩ ?_
              simp only [List.map_cons, List.map_nil, List.getElem?_toArray, List.getElem?_cons_zero, List.getElem?_cons_succ]
              repeat (first | (refine Plan.take ?_ (by rfl) ?_ ?_; rotate_left; (· rintro w9 ⟨⟨u0, u1, u2, u3, u4, u5⟩, v0, v1⟩; go_simp; (try rw [if_neg (by omega)]); all_goals (with_reducible rfl)); simp only [Act.put, List.setIfInBounds_toArray, List.set_cons_zero, List.set_cons_succ]) | (refine Plan.pass (by rfl) ?_; simp only [Act.put, List.setIfInBounds_toArray, List.set_cons_zero, List.set_cons_succ]))
              refine Plan.ends ?_
              have b3 := b2.drew
              have hr3 : w2.drew.heap[w.heap.size + 1]? = some (placeRow tz to) := hr2
              obtain ⟨y0, y1, y2, y3, y4, y5⟩ := HY.out _ b3
              generalize w2.drew = w3 at *
              have hg4 := heap_alloc_new w3 (entRow yb yk yv ym yz yo)
              have b4 := b3.alloc b3.size (entRow yb yk yv ym yz yo)
              have hr4 := e_al hr3 (entRow yb yk yv ym yz yo)
              obtain ⟨d0, d1⟩ := place_row hr4
              obtain ⟨g0, g1, g2, g3, g4, g5⟩ := entry_row hg4
              have f3 : (w3.alloc (entRow yb yk yv ym yz yo)).frozen? ⟨w3.heap.size, 3, none⟩ = false := e_free hg4 3
              have f4 : (w3.alloc (entRow yb yk yv ym yz yo)).frozen? ⟨w3.heap.size, 4, none⟩ = false := e_free hg4 4
              have f5 : (w3.alloc (entRow yb yk yv ym yz yo)).frozen? ⟨w3.heap.size, 5, none⟩ = false := e_free hg4 5
              have k3 := heap_alloc_new w3 (entRow yb yk yv m tz to)
              have b5 := b3.alloc b3.size (entRow yb yk yv m tz to)
              clear hg4
              go_wp2_with (first
                | ((with_reducible refine Plan.load_lit 26 (.tmp 16) w3.heap.size ?_ k3 Try.underlying26 ?_ ?_ ?_); (· rfl); (· rfl); (· exact entry_info); simp only [Act.put, List.setIfInBounds_toArray, List.set_cons_zero, List.set_cons_succ])
                | (go_at_call 29; ((with_reducible refine (HE.out _).mono ?_); rintro e9 w6 ⟨rfl, hb6⟩; have k6 := e_on hb6 k3 (e_lt k3); have b6 := b5.trans (hb6.mono b5.size)))
                | ((with_reducible refine Plan.load_lit 26 (.tmp 16) w3.heap.size ?_ k6 Try.underlying26 ?_ ?_ ?_); (· rfl); (· rfl); (· exact entry_info); simp only [Act.put, List.setIfInBounds_toArray, List.set_cons_zero, List.set_cons_succ])
                | (go_at_call 33; ((with_reducible refine (HW.out _ b6).mono ?_); rintro e9 w7 ⟨a7, n7, c7, rfl, hl7, hb7⟩; have b7 := b6.trans (hb7.mono b6.size))))
              go_ret2
              exact ⟨_, _, _, by rw [HM.out]; rfl, by rw [HYY.out HM.out]; exact hl7.mono (fun b _ h9 => by rcases h9 with h9 | h9; (· exact .inl h9.1); (· exact .inr (Nat.le_trans b6.size h9))), b7⟩
          · have t3 : (yo == fo) = false := by simpa using h3
            have t4 : decide (yo = fo) = false := by simpa using h3
            go_enter Try.func21, Try.ntmps21
            generalize hw0 : (w.alloc (placeRow yz fo)).alloc (placeRow tz to) = w0 at *
            go_wp2_with (first
              | (go_at_call 22; ((with_reducible refine (HV.out _ hA).mono ?_); rintro e9 w1 ⟨rfl, hb1⟩; have hr1 := e_on hb1 hr0 (e_lt hr0); have hx1 := e_on hb1 hx0 (e_lt hx0); have b1 := hA.trans (hb1.mono hA.size)))
              | (go_at_call 30; ((with_reducible refine (HI.out _ b1).mono ?_); rintro e9 w2 ⟨rfl, hb2⟩; have hr2 := e_on hb2 hr1 (e_lt hr1); have hx2 := e_on hb2 hx1 (e_lt hx1); have b2 := b1.trans (hb2.mono b1.size); have hy2 := HY.out _ b2; obtain ⟨y0, y1, y2, y3, y4, y5⟩ := HY.out _ b2; obtain ⟨c0, c1⟩ := place_row hx2)))
            refine Plan.start (fun W => EntAt W x k ⟨yb, yk, yv, ym, yz, yo⟩ ∧ W.cell? ⟨w.heap.size, 0, none⟩ = some (.int .i64 yz) ∧ W.cell? ⟨w.heap.size, 1, none⟩ = some (.int .i64 fo)) [(0, true), (1, true), (2, true), (3, true), (4, true), (5, true), (6, true), (7, true), (8, true), (9, true), (10, true), (11, true), (12, true), (13, true), (14, true), (15, true), (16, true), (17, true), (18, true), (19, true)] (by kernel_rfl) (by kernel_rfl) (by kernel_rfl) (by kernel_rfl) ⟨hy2, c0, c1⟩ ?_
            simp only [List.map_cons, List.map_nil, List.getElem?_toArray, List.getElem?_cons_zero, List.getElem?_cons_succ]
            repeat (first | (refine Plan.take ?_ (by rfl) ?_ ?_; rotate_left; (· rintro w9 ⟨⟨u0, u1, u2, u3, u4, u5⟩, v0, v1⟩; go_simp; (try rw [if_neg (by omega)]); all_goals (with_reducible rfl)); simp only [Act.put, List.setIfInBounds_toArray, List.set_cons_zero, List.set_cons_succ]) | (refine Plan.pass (by rfl) ?_; simp only [Act.put, List.setIfInBounds_toArray, List.set_cons_zero, List.set_cons_succ]))
            refine Plan.ends ?_
            have b3 := b2.drew
            clear y0 y1 y2 y3 y4 y5 c0 c1
            go_wp2_with fail
            go_ret2
            exact ⟨_, _, _, by rw [HNO.out (by omega)]; rfl, by rw [HN.out (HNO.out (by omega))]; exact HEND.out _ b3, b3⟩
        · have t3 : (yz == fz) = false := by simpa using h2
          have t4 : decide (yz = fz) = false := by simpa using h2
          go_enter Try.func21, Try.ntmps21
          generalize hw0 : (w.alloc (placeRow fz fo)).alloc (placeRow tz to) = w0 at *
          go_wp2_with (first
            | (go_at_call 22; ((with_reducible refine (HV.out _ hA).mono ?_); rintro e9 w1 ⟨rfl, hb1⟩; have hr1 := e_on hb1 hr0 (e_lt hr0); have hx1 := e_on hb1 hx0 (e_lt hx0); have b1 := hA.trans (hb1.mono hA.size)))
            | (go_at_call 30; ((with_reducible refine (HI.out _ b1).mono ?_); rintro e9 w2 ⟨rfl, hb2⟩; have hr2 := e_on hb2 hr1 (e_lt hr1); have hx2 := e_on hb2 hx1 (e_lt hx1); have b2 := b1.trans (hb2.mono b1.size); have hy2 := HY.out _ b2; obtain ⟨y0, y1, y2, y3, y4, y5⟩ := HY.out _ b2; obtain ⟨c0, c1⟩ := place_row hx2)))
          refine Plan.start (fun W => EntAt W x k ⟨yb, yk, yv, ym, yz, yo⟩ ∧ W.cell? ⟨w.heap.size, 0, none⟩ = some (.int .i64 fz) ∧ W.cell? ⟨w.heap.size, 1, none⟩ = some (.int .i64 fo)) [(0, true), (1, true), (2, true), (3, true), (4, true), (5, true), (6, true), (7, true), (8, true), (9, true), (10, true), (11, true), (12, true), (13, true), (14, true), (15, true), (16, true), (17, true), (18, true), (19, true)] (by kernel_rfl) (by kernel_rfl) (by kernel_rfl) (by kernel_rfl) ⟨hy2, c0, c1⟩ ?_
          simp only [List.map_cons, List.map_nil, List.getElem?_toArray, List.getElem?_cons_zero, List.getElem?_cons_succ]
          repeat (first | (refine Plan.take ?_ (by rfl) ?_ ?_; rotate_left; (· rintro w9 ⟨⟨u0, u1, u2, u3, u4, u5⟩, v0, v1⟩; go_simp; (try rw [if_neg (by omega)]); all_goals (with_reducible rfl)); simp only [Act.put, List.setIfInBounds_toArray, List.set_cons_zero, List.set_cons_succ]) | (refine Plan.pass (by rfl) ?_; simp only [Act.put, List.setIfInBounds_toArray, List.set_cons_zero, List.set_cons_succ]))
          refine Plan.ends ?_
          have b3 := b2.drew
          clear y0 y1 y2 y3 y4 y5 c0 c1
          go_wp2_with fail
          go_ret2
          exact ⟨_, _, _, by rw [HNO.out (by omega)]; rfl, by rw [HN.out (HNO.out (by omega))]; exact HEND.out _ b3, b3⟩
      · have t3 : (yv != v) = true := by simpa using h1
        go_enter Try.func21, Try.ntmps21
        generalize hw0 : (w.alloc (placeRow fz fo)).alloc (placeRow tz to) = w0 at *
        go_wp2_with (first
          | (go_at_call 22; ((with_reducible refine (HV.out _ hA).mono ?_); rintro e9 w1 ⟨rfl, hb1⟩; have hr1 := e_on hb1 hr0 (e_lt hr0); have hx1 := e_on hb1 hx0 (e_lt hx0); have b1 := hA.trans (hb1.mono hA.size)))
          | (go_at_call 30; ((with_reducible refine (HI.out _ b1).mono ?_); rintro e9 w2 ⟨rfl, hb2⟩; have hr2 := e_on hb2 hr1 (e_lt hr1); have hx2 := e_on hb2 hx1 (e_lt hx1); have b2 := b1.trans (hb2.mono b1.size); have hy2 := HY.out _ b2; obtain ⟨y0, y1, y2, y3, y4, y5⟩ := HY.out _ b2; obtain ⟨c0, c1⟩ := place_row hx2)))
        refine Plan.start (fun W => EntAt W x k ⟨yb, yk, yv, ym, yz, yo⟩ ∧ W.cell? ⟨w.heap.size, 0, none⟩ = some (.int .i64 fz) ∧ W.cell? ⟨w.heap.size, 1, none⟩ = some (.int .i64 fo)) [(0, true), (1, true), (2, true), (3, true), (4, true), (5, true), (6, true), (7, true), (8, true), (9, true), (10, true), (11, true), (12, true), (13, true), (14, true), (15, true), (16, true), (17, true), (18, true), (19, true)] (by kernel_rfl) (by kernel_rfl) (by kernel_rfl) (by kernel_rfl) ⟨hy2, c0, c1⟩ ?_
        simp only [List.map_cons, List.map_nil, List.getElem?_toArray, List.getElem?_cons_zero, List.getElem?_cons_succ]
        repeat (first | (refine Plan.take ?_ (by rfl) ?_ ?_; rotate_left; (· rintro w9 ⟨⟨u0, u1, u2, u3, u4, u5⟩, v0, v1⟩; go_simp; (try rw [if_neg (by omega)]); all_goals (with_reducible rfl)); simp only [Act.put, List.setIfInBounds_toArray, List.set_cons_zero, List.set_cons_succ]) | (refine Plan.pass (by rfl) ?_; simp only [Act.put, List.setIfInBounds_toArray, List.set_cons_zero, List.set_cons_succ]))
        refine Plan.ends ?_
        have b3 := b2.drew
        clear y0 y1 y2 y3 y4 y5 c0 c1
        go_wp2_with fail
        go_ret2
        exact ⟨_, _, _, by rw [HNO.out (by omega)]; rfl, by rw [HN.out (HNO.out (by omega))]; exact HEND.out _ b3, b3⟩
end Go.Proofs.Ytbaclgedohpibaa.Ents
