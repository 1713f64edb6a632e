/- Texts that belong together, part 9. -/
import Derived.Test.YtlplomofgbmgaaaPack8
import Derived.OwnWalk

/- The walk of the document's own Open where there must be room. -/
namespace Go.Proofs.Ytlplomofgbmgaaa
open Go.RowKit Plan ZnsMath

set_option maxHeartbeats 1000000 in
set_option maxRecDepth 20000 in
theorem refOpen_none (F : Nat → Prop) (D : Dev) (a : Option Addr) (len cap i : Nat) (w : World) (hF : ∀ b, F b → b < w.heap.size) (hz : ZonesIn w F a len cap D.zones) (hm : len ≤ 1000000) (hi : i < len) (hE : beginE D (i : Int) = 0) (h : stateAt D (i : Int) ≠ 4 ∧ stateAt D (i : Int) ≠ 1 ∧ stateAt D (i : Int) ≠ 2) (hn : roomE D i ≠ 0) :
    Calls Try.prog 37 #[devV D a len cap, .int .i64 (i : Int)] w (DevPost w F len D (roomE D i)) := by
  have hbg := fun W (h : Below w.heap.size w W) => refBegin_any D a len cap i W (hz.on (Agree.below h)).is
  have hB2 : Below w.heap.size w ((w.alloc (devRow D.size D.maxOpen D.maxActive a len cap)).alloc (devRow 0 0 0 none 0 0)) := ((Below.refl _ _).alloc (Nat.le_refl _) _).alloc (by simp) _
  have hiI : (i : Int) < (len : Int) := by omega
  have hrm : ∀ W, Below w.heap.size w W → Calls Try.prog 48 #[devV D a len cap, .int .i64 (i : Int)] W fun e w' => ∃ a' cap', e = .returned (.tuple #[devV (roomR D i) a' len cap', .int .i64 (roomE D i)]) ∧ ZonesIn w' (Plus F W.heap.size) a' len cap' (roomR D i).zones ∧ Below W.heap.size W w' := fun W h => refRoom_any F D a len cap i W (fun b hb => Nat.lt_of_lt_of_le (hF b hb) h.size) (hz.on (Agree.below h)) hm hi
  obtain ⟨x, z, sa, sl, sc, rfl, hzk, hza, hzs⟩ := hz.zone i hi
  have hxb := zone_block hza
  rw [stateAt_of hzk] at h
  rw [hE] at hbg
  unfold DevPost
  generalize roomR D i = D2 at *
  generalize roomE D i = E at *
  have HB := Lib.hid hbg
  have HM := Lib.hid hrm
  have HA := Lib.hid hB2
  have HZ := Lib.hid hza
  have e4 : (z.state == 4) = false := by simp [h.1]
  have e1 : (z.state == 1) = false := by simp [h.2.1]
  have e2 : (z.state == 2) = false := by simp [h.2.2]
  clear hbg hrm hB2 hE hza hzs h
  obtain ⟨size, op, act, Z⟩ := D
  obtain ⟨s2, o2, t2, Z2⟩ := D2
  have hn1 : (E != 0) = true := by simp [hn]
  go_enter Try.func37, Try.ntmps37
  go_wp2_with (first
    | (go_at_call 46; ((with_reducible refine (HB.out _ HA.out).mono ?_); rintro e w1 ⟨rfl, hb1⟩; have hx1 := row_al (row_on hb1 (heap_first w _ _) (by simp only [World.size_alloc]; omega)) (devRow size op act (some x) len cap); have hr1 := row_al (row_on hb1 (heap_second w _ _) (by simp only [World.size_alloc]; omega)) (devRow size op act (some x) len cap); have hv1 := heap_alloc_new w1 (devRow size op act (some x) len cap); obtain ⟨y1, d0, d1, d2, d3⟩ := row4 (row_on hb1 (heap_first w _ _) (by simp only [World.size_alloc]; omega)); obtain ⟨y1', f0, f1, f2, f3⟩ := row4 hx1; have b0 := HA.out.trans (hb1.mono (by simp only [World.size_alloc]; omega)); have b1 := b0.alloc b0.size (devRow size op act (some x) len cap); obtain ⟨zc0, zc1, zc2⟩ := HZ.out.on b1 hxb))
    | (go_at_call 48; ((with_reducible refine (HM.out _ b1).mono ?_); rintro e w2 ⟨a2, c2, rfl, hz2, hb2⟩; have hx2 := row_al (row_on hb2 hx1 (lt_of_block hx1)) (devRow s2 o2 t2 a2 len c2); have hr2 := row_al (row_on hb2 hr1 (lt_of_block hr1)) (devRow s2 o2 t2 a2 len c2); have hv2 := row_al (row_on hb2 hv1 (lt_of_block hv1)) (devRow s2 o2 t2 a2 len c2); have hy2 := heap_alloc_new w2 (devRow s2 o2 t2 a2 len c2); obtain ⟨y2, d0, d1, d2, d3⟩ := row4 hx2; obtain ⟨y3, l0, l1, l2, l3⟩ := row4 hy2; have b2 := b1.trans (hb2.mono b1.size); have b2' := b2.alloc b2.size (devRow s2 o2 t2 a2 len c2)))
    | ((with_reducible refine Plan.store_lit 24 (.tmp 4) _ (w.heap.size + 1) ?_ hr2 ?_ ?_ ?_ ?_ ?_ ?_); rotate_left; (· rfl); (· rfl); (· exact dev_info); (· rfl); (· simp [Value.oneCell']); simp only [Act.put]))
  have b3 := below_setRow b2' (show w.heap.size ≤ w.heap.size + 1 by omega) #[.int .i64 size, .int .i64 op, .int .i64 act, .slice (some x) len cap]
  refine bodyPost_ret (Plan.results_cell_tmp (p := 4) (q := 5) rfl _ _ _ _ _ _ _ rfl (setRow_heap _ _ _ _ _ _ hr2) Try.underlying24 rfl dev_info) rfl ⟨some x, cap, rfl, (hz.on (Agree.below b3)).mono (fun b _ hb => .inl hb), b3⟩
set_option maxHeartbeats 2000000 in
set_option maxRecDepth 20000 in
theorem refOpen_room (F : Nat → Prop) (D : Dev) (a : Option Addr) (len cap i : Nat) (w : World) (hF : ∀ b, F b → b < w.heap.size) (hz : ZonesIn w F a len cap D.zones) (hm : len ≤ 1000000) (hi : i < len) (hE : beginE D (i : Int) = 0) (h : stateAt D (i : Int) ≠ 4 ∧ stateAt D (i : Int) ≠ 1 ∧ stateAt D (i : Int) ≠ 2) (hn : roomE D i = 0) :
    Calls Try.prog 37 #[devV D a len cap, .int .i64 (i : Int)] w (DevPost w F len (withZ (roomR D i) i (held ((roomR D i).zones.getD i empty))) 0) := by
  have hbg := fun W (h : Below w.heap.size w W) => refBegin_any D a len cap i W (hz.on (Agree.below h)).is
  have hB2 : Below w.heap.size w ((w.alloc (devRow D.size D.maxOpen D.maxActive a len cap)).alloc (devRow 0 0 0 none 0 0)) := ((Below.refl _ _).alloc (Nat.le_refl _) _).alloc (by simp) _
  have hiI : (i : Int) < (len : Int) := by omega
  have hrm : ∀ W, Below w.heap.size w W → Calls Try.prog 48 #[devV D a len cap, .int .i64 (i : Int)] W fun e w' => ∃ a' cap', e = .returned (.tuple #[devV (roomR D i) a' len cap', .int .i64 (roomE D i)]) ∧ ZonesIn w' (Plus F W.heap.size) a' len cap' (roomR D i).zones ∧ Below W.heap.size W w' := fun W h => refRoom_any F D a len cap i W (fun b hb => Nat.lt_of_lt_of_le (hF b hb) h.size) (hz.on (Agree.below h)) hm hi
  obtain ⟨x, z, sa, sl, sc, rfl, hzk, hza, hzs⟩ := hz.zone i hi
  have hxb := zone_block hza
  rw [stateAt_of hzk] at h
  rw [hE] at hbg
  unfold DevPost
  generalize roomR D i = D2 at *
  generalize roomE D i = E at *
  have HB := Lib.hid hbg
  have HM := Lib.hid hrm
  have HA := Lib.hid hB2
  have HZ := Lib.hid hza
  have e4 : (z.state == 4) = false := by simp [h.1]
  have e1 : (z.state == 1) = false := by simp [h.2.1]
  have e2 : (z.state == 2) = false := by simp [h.2.2]
  clear hbg hrm hB2 hE hza hzs h
  obtain ⟨size, op, act, Z⟩ := D
  obtain ⟨s2, o2, t2, Z2⟩ := D2
  subst hn
  have hF2 : ∀ n b, Plus F n b → b < w.heap.size ∨ n ≤ b := fun n b hb => hb.imp (hF b) id
  go_enter Try.func37, Try.ntmps37
  go_wp2_with (first
    | (go_at_call 46; ((with_reducible refine (HB.out _ HA.out).mono ?_); rintro e w1 ⟨rfl, hb1⟩; have hx1 := row_al (row_on hb1 (heap_first w _ _) (by simp only [World.size_alloc]; omega)) (devRow size op act (some x) len cap); have hr1 := row_al (row_on hb1 (heap_second w _ _) (by simp only [World.size_alloc]; omega)) (devRow size op act (some x) len cap); have hv1 := heap_alloc_new w1 (devRow size op act (some x) len cap); obtain ⟨y1, d0, d1, d2, d3⟩ := row4 (row_on hb1 (heap_first w _ _) (by simp only [World.size_alloc]; omega)); obtain ⟨y1', f0, f1, f2, f3⟩ := row4 hx1; have b0 := HA.out.trans (hb1.mono (by simp only [World.size_alloc]; omega)); have b1 := b0.alloc b0.size (devRow size op act (some x) len cap); obtain ⟨zc0, zc1, zc2⟩ := HZ.out.on b1 hxb))
    | (go_at_call 48; ((with_reducible refine (HM.out _ b1).mono ?_); rintro e w2 ⟨a2, c2, rfl, hz2, hb2⟩; have hx2 := row_al (row_on hb2 hx1 (lt_of_block hx1)) (devRow s2 o2 t2 a2 len c2); have hr2 := row_al (row_on hb2 hr1 (lt_of_block hr1)) (devRow s2 o2 t2 a2 len c2); have hv2 := row_al (row_on hb2 hv1 (lt_of_block hv1)) (devRow s2 o2 t2 a2 len c2); have hy2 := heap_alloc_new w2 (devRow s2 o2 t2 a2 len c2); obtain ⟨y2, d0, d1, d2, d3⟩ := row4 hx2; obtain ⟨y3, l0, l1, l2, l3⟩ := row4 hy2; have b2 := b1.trans (hb2.mono b1.size); have b2' := b2.alloc b2.size (devRow s2 o2 t2 a2 len c2)))
    | ((with_reducible refine Plan.store_lit 24 (.tmp 7) _ w1.heap.size ?_ hv2 ?_ ?_ ?_ ?_ ?_ ?_); rotate_left; (· rfl); (· rfl); (· exact dev_info); (· rfl); (· simp [Value.oneCell']); simp only [Act.put]; have hv3 := setRow_heap _ _ _ #[.int .i64 s2, .int .i64 o2, .int .i64 t2, .slice a2 len c2] _ _ hv2; have hr3 := (setRow_other _ w1.heap.size (w.heap.size + 1) #[.int .i64 s2, .int .i64 o2, .int .i64 t2, .slice a2 len c2] (by have := lt_of_block (row_on hb1 (heap_second w _ _) (by simp only [World.size_alloc]; omega)); omega)).trans hr2; have b3 := below_setRow b2' (show w.heap.size ≤ w1.heap.size from b0.size) #[.int .i64 s2, .int .i64 o2, .int .i64 t2, .slice a2 len c2]; have hz3 := (hz2.on (Agree.below ((Below.refl _ _).alloc (Nat.le_refl _) (devRow s2 o2 t2 a2 len c2)))).on (Agree.row (plus_not hF b0.size (by simp) : ¬ Plus F (w1.alloc (devRow size op act (some x) len cap)).heap.size w1.heap.size) #[.int .i64 s2, .int .i64 o2, .int .i64 t2, .slice a2 len c2]); generalize (w2.alloc (devRow s2 o2 t2 a2 len c2)).setRow w1.heap.size #[.int .i64 s2, .int .i64 o2, .int .i64 t2, .slice a2 len c2] = w3 at hv3 hr3 b3 hz3 ⊢; obtain ⟨v3, m0, m1, m2, m3⟩ := row4 hv3; obtain ⟨x3, z3, ta, tl, tc, hx3, hz3k, ⟨q0, q1, q2⟩, hs3⟩ := hz3.zone i hi; subst hx3; have bz := (Below.refl w3.heap.size w3).alloc (Nat.le_refl _) (zoneRow 2 z3.durable ta tl tc))
    | (go_at_call 47; ((with_reducible refine (with_agg (Plus F (w1.alloc (devRow size op act (some x) len cap)).heap.size) ⟨s2, o2, t2, Z2⟩ (some x3) len c2 i 2 z3.durable z3.sectors ta tl tc _ (hz3.on (Agree.below bz)) hi hm (hs3.on (Agree.below bz))).mono ?_); rintro e w4 ⟨a4, c4, rfl, hz4, hb4⟩; have hr4 := row_on hb4 (row_al hr3 (zoneRow 2 z3.durable ta tl tc)) (lt_of_block (row_al hr3 (zoneRow 2 z3.durable ta tl tc)))))
    | ((with_reducible refine Plan.store_lit 24 (.tmp 4) _ (w.heap.size + 1) ?_ hr4 ?_ ?_ ?_ ?_ ?_ ?_); rotate_left; (· rfl); (· rfl); (· exact dev_info); (· rfl); (· simp [Value.oneCell']); simp only [Act.put]))
  have hz3k' : Z2[i]? = some z3 := hz3k
  rw [getD_of hz3k']
  have hr5 := lt_of_block hr3
  have n1 := b1.size
  have n3 := b3.size
  have b4 := b3.alloc b3.size (zoneRow 2 z3.durable ta tl tc)
  have n4 := b4.size
  have hz5 := hz4.on (Agree.row (by
    rintro (h | h)
    · exact plus_not hF (Nat.le_succ _) (by have := lt_of_block (row_on hb1 (heap_second w _ _) (by simp only [World.size_alloc]; omega)); simp only [World.size_alloc]; omega) h
    · simp only [World.size_alloc] at h; omega : ¬ Plus (Plus F (w1.alloc (devRow size op act (some x) len cap)).heap.size) (w3.alloc (zoneRow 2 z3.durable ta tl tc)).heap.size (w.heap.size + 1)) #[.int .i64 s2, .int .i64 o2, .int .i64 t2, .slice a4 len c4])
  refine bodyPost_ret (Plan.results_cell_tmp (p := 4) (q := 5) rfl _ _ _ _ _ _ _ rfl (setRow_heap _ _ _ _ _ _ hr4) Try.underlying24 rfl dev_info) rfl ⟨a4, c4, rfl, hz5.mono ?_, below_setRow (b4.trans (hb4.mono b4.size)) (by omega) _⟩
  rintro b - ((h | h) | h)
  · exact .inl h
  · exact .inr (Nat.le_trans n1 h)
  · exact .inr (Nat.le_trans n4 h)
theorem refOpen_any (F : Nat → Prop) (D : Dev) (a : Option Addr) (len cap : Nat) (k : Int) (w : World) (hF : ∀ b, F b → b < w.heap.size) (hz : ZonesIn w F a len cap D.zones) (hm : len ≤ 1000000) :
    Calls Try.prog 37 #[devV D a len cap, .int .i64 k] w (DevPost w F len (openR D k) (openE D k)) := by
  by_cases hE : beginE D k = 0
  · obtain ⟨i, rfl, hi, -, -⟩ := begin_range hE
    rw [hz.is.length] at hi
    by_cases h4 : stateAt D (i : Int) = 4
    · have hc : openE D (i : Int) = 7 := by simp [openE, hE, h4]
      have hr : openR D (i : Int) = D := by simp [openR, hc]
      rw [hc, hr]
      exact refOpen_full F D a len cap i w hz hi hE h4
    · by_cases h12 : stateAt D (i : Int) = 1 ∨ stateAt D (i : Int) = 2
      · have ho : openB (stateAt D (i : Int)) = true := by rcases h12 with h | h <;> simp [openB, h]
        have hc : openE D (i : Int) = 0 := by simp [openE, hE, h4, ho]
        have hr : openR D (i : Int) = withZ D i (held (D.zones.getD i empty)) := by simp [openR, hc, ready, ho]
        rw [hc, hr]
        exact refOpen_held F D a len cap i w hF hz hm hi hE h12
      · have h1 : stateAt D (i : Int) ≠ 1 := fun e => h12 (.inl e)
        have h2 : stateAt D (i : Int) ≠ 2 := fun e => h12 (.inr e)
        have ho : openB (stateAt D (i : Int)) = false := by simp [openB, h1, h2]
        have hc : openE D (i : Int) = roomE D i := by simp [openE, hE, h4, ho]
        by_cases hn : roomE D i = 0
        · have hr : openR D (i : Int) = withZ (roomR D i) i (held ((roomR D i).zones.getD i empty)) := by simp [openR, hc, hn, ready, ho]
          rw [hc, hr, hn]
          exact refOpen_room F D a len cap i w hF hz hm hi hE ⟨h4, h1, h2⟩ hn
        · have hr : openR D (i : Int) = D := by simp [openR, hc, hn]
          rw [hc, hr]
          exact refOpen_none F D a len cap i w hF hz hm hi hE ⟨h4, h1, h2⟩ hn
  · have hc : openE D k = beginE D k := by simp [openE, hE]
    have hr : openR D k = D := by simp [openR, hc, hE]
    rw [hc, hr]
    exact refOpen_err F D a len cap k w hz hE
end Go.Proofs.Ytlplomofgbmgaaa

/- The walk of the document's own Read. -/
namespace Go.Proofs.Ytlplomofgbmgaaa
open Go.RowKit Plan ZnsMath

end Go.Proofs.Ytlplomofgbmgaaa

/- The walks of the document's own comparison of two devices that are equal. -/
namespace Go.Proofs.Ytlplomofgbmgaaa
open Go.RowKit Plan ZnsMath

set_option maxHeartbeats 1000000 in
set_option maxRecDepth 20000 in
theorem refSameZone_any (z : Zone) (sa ta : Option Addr) (sl sc tc : Nat) (w : World) (hs : IsStrs w sa sl sc z.sectors) (ht : IsStrs w ta sl tc z.sectors) :
    Calls Try.prog 34 #[zoneV z sa sl sc, zoneV z ta sl tc] w fun e w' => e = .returned (.bool true) ∧ Below w.heap.size w w' := by
  have hl := hs.length
  have hlm := hs.len_le
  have hx : ∀ j : Nat, j < sl → ∃ x y s, sa = some x ∧ ta = some y ∧ w.cell? (x.add j) = some (.string s) ∧ w.cell? (y.add j) = some (.string s) := fun j hj => by
    obtain ⟨x, h1, h2⟩ := hs.some (by omega)
    obtain ⟨y, h3, h4⟩ := ht.some (by omega)
    exact ⟨x, y, z.sectors[j]'(by omega), h1, h3, (h2 j _ (List.getElem?_eq_getElem _)).1, (h4 j _ (List.getElem?_eq_getElem _)).1⟩
  have HX := Lib.hid hx
  clear hx hs ht hl
  obtain ⟨st, du, L⟩ := z
  change Calls Try.prog 34 #[.agg #[.int .i64 st, .int .i64 du, .slice sa sl sc], .agg #[.int .i64 st, .int .i64 du, .slice ta sl tc]] w _
  go_enter Try.func34, Try.ntmps34
  go_wp2_with fail
  go_loopw [5] (fun c wr => ∃ j : Nat, c = .int .i64 j ∧ j ≤ sl ∧ wr.heap[w.heap.size]? = some (zoneRow st du sa sl sc) ∧ wr.heap[w.heap.size + 1]? = some (zoneRow st du ta sl tc) ∧ Below w.heap.size w wr) (fun c _ => sl - (intOf c).toNat)
  case atStart => exact ⟨0, rfl, by omega, heap_first _ _ _, heap_second _ _ _, ((Below.refl _ _).alloc (Nat.le_refl _) _).alloc (by simp) _⟩
  case round =>
    obtain ⟨j, rfl, hj, h1, h2, hb⟩ := hrel
    obtain ⟨y1, a0, a1, a2⟩ := row3 h1
    obtain ⟨y2, b0, b1, b2⟩ := row3 h2
    by_cases hlt : j < sl
    · obtain ⟨x, y, s, rfl, rfl, c1, c2⟩ := HX.out j hlt
      have hjI : (j : Int) < (sl : Int) := by omega
      have k1 := (hb.cell (block_lt_of_cell c1)).trans c1
      have k2 := (hb.cell (block_lt_of_cell c2)).trans c2
      go_wp2_with fail
      refine Plan.start (fun W => W.cell? ⟨w.heap.size, 2, none⟩ = some (.slice (some x) sl sc) ∧ W.cell? ⟨w.heap.size + 1, 2, none⟩ = some (.slice (some y) sl tc) ∧ W.cell? (x.add j) = some (.string s) ∧ W.cell? (y.add j) = some (.string s)) [(0, true), (1, true), (2, true), (3, true), (4, true), (5, true), (6, true), (7, true), (8, true), (9, true), (10, true)] (by kernel_rfl) (by kernel_rfl) (by kernel_rfl) (by kernel_rfl) ⟨a2, b2, k1, k2⟩ ?_
      simp only [List.map_cons, List.map_nil, List.getElem?_toArray, List.getElem?_cons_zero, List.getElem?_cons_succ]
      repeat (first | (refine Plan.take ?_ (by rfl) ?_ ?_; rotate_left; (· rintro w9 ⟨e0, e1, e2, e3⟩; go_simp; (try rw [if_neg (by omega)]); all_goals (with_reducible rfl)); simp only [Act.put, List.setIfInBounds_toArray, List.set_cons_zero, List.set_cons_succ]) | (refine Plan.pass (by rfl) ?_; simp only [Act.put, List.setIfInBounds_toArray, List.set_cons_zero, List.set_cons_succ]))
      refine Plan.ends ?_
      have hss : (s.toList != s.toList) = false := by simp
      go_wp2_with fail
      go_roundw
      case rel => exact ⟨j + 1, by go_num, by omega, h1, h2, hb.drew⟩
      case measure => simp [intOf]; omega
    · obtain rfl : j = sl := by omega
      go_wp2_with fail
      go_ret
      exact ⟨rfl, hb⟩
set_option maxHeartbeats 1000000 in
set_option maxRecDepth 20000 in
theorem refSame_any (D : Dev) (a b : Option Addr) (len cap cap2 : Nat) (w : World) (hz : IsZones w a len cap D.zones) (hy : IsZones w b len cap2 D.zones) :
    Calls Try.prog 15 #[devV D a len cap, devV D b len cap2] w fun e w' => e = .returned (.bool true) ∧ Below w.heap.size w w' := by
  have hlm := hz.len_le
  have hx : ∀ W, Below w.heap.size w W → ∀ j : Nat, j < len → ∃ x y z sa sl sc ta tc, a = some x ∧ b = some y ∧ ZoneAt W x j z sa sl sc ∧ ZoneAt W y j z ta sl tc ∧ IsStrs W sa sl sc z.sectors ∧ IsStrs W ta sl tc z.sectors := fun W hW j hj => by
    obtain ⟨x, z, sa, sl, sc, h1, h2, h3, h4⟩ := (hz.on hW (Nat.le_refl _)).zone j hj
    obtain ⟨y, z', ta, tl, tc, h5, h6, h7, h8⟩ := (hy.on hW (Nat.le_refl _)).zone j hj
    obtain rfl := Option.some.inj (h2.symm.trans h6)
    have e1 := h4.length
    have e2 := h8.length
    obtain rfl : sl = tl := by omega
    exact ⟨x, y, z, sa, sl, sc, ta, tc, h1, h5, h3, h7, h4, h8⟩
  have HX := Lib.hid hx
  clear hx hz hy
  obtain ⟨size, op, act, Z⟩ := D
  change Calls Try.prog 15 #[.agg #[.int .i64 size, .int .i64 op, .int .i64 act, .slice a len cap], .agg #[.int .i64 size, .int .i64 op, .int .i64 act, .slice b len cap2]] w _
  go_enter Try.func15, Try.ntmps15
  go_wp2_with fail
  go_loopw [5] (fun c wr => ∃ j : Nat, c = .int .i64 j ∧ j ≤ len ∧ wr.heap[w.heap.size]? = some (devRow size op act a len cap) ∧ wr.heap[w.heap.size + 1]? = some (devRow size op act b len cap2) ∧ Below w.heap.size w wr) (fun c _ => len - (intOf c).toNat)
  case atStart => exact ⟨0, rfl, by omega, heap_first _ _ _, heap_second _ _ _, ((Below.refl _ _).alloc (Nat.le_refl _) _).alloc (by simp) _⟩
  case round =>
    obtain ⟨j, rfl, hj, h1, h2, hb⟩ := hrel
    obtain ⟨y1, a0, a1, a2, a3⟩ := row4 h1
    obtain ⟨y2, b0, b1, b2, b3⟩ := row4 h2
    by_cases hlt : j < len
    · obtain ⟨x, y, z, sa, sl, sc, ta, tc, rfl, rfl, hza, hzb, hsa, hsb⟩ := HX.out wr hb j hlt
      have hjI : (j : Int) < (len : Int) := by omega
      have hxb := zone_block hza
      have hyb := zone_block hzb
      have hsm := fun W (h : Below wr.heap.size wr W) => refSameZone_any z sa ta sl sc tc W (hsa.on h (Nat.le_refl _)) (hsb.on h (Nat.le_refl _))
      have HSM := Lib.hid hsm
      have HZA := Lib.hid hza
      have HZB := Lib.hid hzb
      obtain ⟨p0, p1, p2⟩ := hza
      obtain ⟨q0, q1, q2⟩ := hzb
      clear hsm hsa hsb
      go_wp2_with fail
      refine Plan.start (fun W => (W.cell? ⟨w.heap.size, 3, none⟩ = some (.slice (some x) len cap) ∧ W.cell? ⟨w.heap.size + 1, 3, none⟩ = some (.slice (some y) len cap2)) ∧ ZoneAt W x j z sa sl sc ∧ ZoneAt W y j z ta sl tc) [(0, true), (1, true), (2, true), (3, true), (4, true), (5, true), (6, true), (7, true), (8, true), (9, true), (10, false), (11, true)] (by kernel_rfl) (by kernel_rfl) (by kernel_rfl) (by kernel_rfl) ⟨⟨a3, b3⟩, ⟨p0, p1, p2⟩, q0, q1, q2⟩ ?_
      simp only [List.map_cons, List.map_nil, List.getElem?_toArray, List.getElem?_cons_zero, List.getElem?_cons_succ]
      repeat (first | (refine Plan.take ?_ (by rfl) ?_ ?_; rotate_left; (· rintro w9 ⟨⟨e0, e1⟩, ⟨r0, r1, r2⟩, t0, t1, t2⟩; go_simp; (try rw [if_neg (by omega)]); all_goals (with_reducible rfl)); simp only [Act.put, List.setIfInBounds_toArray, List.set_cons_zero, List.set_cons_succ]) | (refine Plan.pass (by rfl) ?_; simp only [Act.put, List.setIfInBounds_toArray, List.set_cons_zero, List.set_cons_succ]))
      refine Plan.call (by rfl) 34 _ ?_ (HSM.out _ (Below.refl _ _).drew) ?_
      · go_simp
      rintro e w4 ⟨rfl, hb4⟩
      have hb4 := (Below.refl wr.heap.size wr).drew.trans hb4
      have h14 := row_on hb4 h1 (lt_of_block h1)
      have h24 := row_on hb4 h2 (lt_of_block h2)
      refine ⟨_, rfl, ⟨⟨(row4 h14).2.2.2.2, (row4 h24).2.2.2.2⟩, HZA.out.on hb4 hxb, HZB.out.on hb4 hyb⟩, ?_⟩
      simp only [Act.put, List.setIfInBounds_toArray, List.set_cons_zero, List.set_cons_succ]
      repeat (first | (refine Plan.take ?_ (by rfl) ?_ ?_; rotate_left; (· rintro w9 ⟨⟨e0, e1⟩, ⟨r0, r1, r2⟩, t0, t1, t2⟩; go_simp; (try rw [if_neg (by omega)]); all_goals (with_reducible rfl)); simp only [Act.put, List.setIfInBounds_toArray, List.set_cons_zero, List.set_cons_succ]) | (refine Plan.pass (by rfl) ?_; simp only [Act.put, List.setIfInBounds_toArray, List.set_cons_zero, List.set_cons_succ]))
      refine Plan.ends ?_
      go_wp2_with fail
      go_roundw
      case rel => exact ⟨j + 1, by go_num, by omega, h14, h24, hb.trans (hb4.mono hb.size)⟩
      case measure => simp [intOf]; omega
    · obtain rfl : j = len := by omega
      go_wp2_with fail
      go_ret
      exact ⟨rfl, hb⟩
end Go.Proofs.Ytlplomofgbmgaaa

/- The walk of the document's own Append where it is refused ahead of making room. -/
namespace Go.Proofs.Ytlplomofgbmgaaa
open Go.RowKit Plan ZnsMath

/-- A struct result and two plain ones. -/
theorem results_cell_tmp2 {P : Program} {fn : Func} {p q r : Tmp} {ty : TypeId} (h : fn.results = #[.cell p ty, .tmp q, .tmp r]) (tmps : Array Value) (w : World) (g : Nat) (t : TypeId) (cs : Array Value) (fr : Nat × Nat) (d : TypeDesc)
    (hp : tmps.getD p undef = .pointer (some ⟨g, 0, none⟩)) (hg : w.heap[g]? = some (.cells cs t fr))
    (hu : P.underlying ty = some d) (hd : (match d with | .struct _ | .array _ _ => true | _ => false) = true) (hi : (P.info? ty).map (·.size) = some cs.size) :
    (results fn tmps).run P w = .ok (.tuple #[.agg cs, tmps.getD q undef, tmps.getD r undef]) w := by
  have hp' : tmps[p]?.getD undef = .pointer (some ⟨g, 0, none⟩) := by simpa using hp
  simp [results, h, hp', asAddr, run_loadVar_row w g t ty cs fr d hg hu hd hi]
/-- what Append leaves -/
def AppPost (w : World) (F : Nat → Prop) (len : Nat) (D : Dev) (at' E : Int) (e : Ending) (w' : World) : Prop :=
  ∃ a cap, e = .returned (.tuple #[devV D a len cap, .int .i64 at', .int .i64 E]) ∧ ZonesIn w' (Plus F w.heap.size) a len cap D.zones ∧ Below w.heap.size w w'
set_option maxHeartbeats 1000000 in
set_option maxRecDepth 20000 in
theorem refAppend_check (F : Nat → Prop) (D : Dev) (a : Option Addr) (len cap : Nat) (k : Int) (s : ByteArray) (w : World) (hz : ZonesIn w F a len cap D.zones) (hE : checkE D ≠ 0) :
    Calls Try.prog 39 #[devV D a len cap, .int .i64 k, .string s] w (AppPost w F len D 0 (checkE D)) := by
  have hck := fun W (h : Below w.heap.size w W) => refCheck05_any D a len cap W (hz.on (Agree.below h)).is
  have hB2 : Below w.heap.size w ((w.alloc (devRow D.size D.maxOpen D.maxActive a len cap)).alloc (devRow 0 0 0 none 0 0)) := ((Below.refl _ _).alloc (Nat.le_refl _) _).alloc (by simp) _
  unfold AppPost
  generalize checkE D = E at *
  have hE1 : (E != 0) = true := by simp [hE]
  have HB := Lib.hid hck
  have HA := Lib.hid hB2
  clear hck hB2 hE
  obtain ⟨size, op, act, Z⟩ := D
  go_enter Try.func39, Try.ntmps39
  go_wp2_with (first
    | (go_at_call 14; ((with_reducible refine (HB.out _ HA.out).mono ?_); rintro e w1 ⟨rfl, hb1⟩; have hx1 := row_on hb1 (heap_first w _ _) (by simp only [World.size_alloc]; omega); have hr1 := row_on hb1 (heap_second w _ _) (by simp only [World.size_alloc]; omega); obtain ⟨y1, d0, d1, d2, d3⟩ := row4 hx1; have b1 := HA.out.trans (hb1.mono (by simp only [World.size_alloc]; omega))))
    | ((with_reducible refine Plan.store_lit 24 (.tmp 6) _ (w.heap.size + 1) ?_ hr1 ?_ ?_ ?_ ?_ ?_ ?_); rotate_left; (· rfl); (· rfl); (· exact dev_info); (· rfl); (· simp [Value.oneCell']); simp only [Act.put]))
  have b2 := below_setRow b1 (show w.heap.size ≤ w.heap.size + 1 by omega) #[.int .i64 size, .int .i64 op, .int .i64 act, .slice a len cap]
  refine bodyPost_ret (results_cell_tmp2 (p := 6) (q := 7) (r := 8) rfl _ _ _ _ _ _ _ rfl (setRow_heap _ _ _ _ _ _ hr1) Try.underlying24 rfl dev_info) rfl ⟨a, cap, rfl, (hz.on (Agree.below b2)).mono (fun b _ hb => .inl hb), b2⟩
set_option maxHeartbeats 1000000 in
set_option maxRecDepth 20000 in
theorem refAppend_zone (F : Nat → Prop) (D : Dev) (a : Option Addr) (len cap : Nat) (k : Int) (s : ByteArray) (w : World) (hz : ZonesIn w F a len cap D.zones) (hE : checkE D = 0) (hk : k < 0 ∨ (D.zones.length : Int) ≤ k) :
    Calls Try.prog 39 #[devV D a len cap, .int .i64 k, .string s] w (AppPost w F len D 0 5) := by
  have hck := fun W (h : Below w.heap.size w W) => refCheck05_any D a len cap W (hz.on (Agree.below h)).is
  have hB2 : Below w.heap.size w ((w.alloc (devRow D.size D.maxOpen D.maxActive a len cap)).alloc (devRow 0 0 0 none 0 0)) := ((Below.refl _ _).alloc (Nat.le_refl _) _).alloc (by simp) _
  rw [hz.is.length] at hk
  unfold AppPost
  rw [hE] at hck
  have HB := Lib.hid hck
  have HA := Lib.hid hB2
  have hk2 : k < 0 ∨ (¬ k < 0 ∧ (len : Int) ≤ k) := by omega
  clear hck hB2 hE hk
  obtain ⟨size, op, act, Z⟩ := D
  rcases hk2 with h1 | ⟨h1, h2⟩
  all_goals
    go_enter Try.func39, Try.ntmps39
    go_wp2_with (first
      | (go_at_call 14; ((with_reducible refine (HB.out _ HA.out).mono ?_); rintro e w1 ⟨rfl, hb1⟩; have hx1 := row_on hb1 (heap_first w _ _) (by simp only [World.size_alloc]; omega); have hr1 := row_on hb1 (heap_second w _ _) (by simp only [World.size_alloc]; omega); obtain ⟨y1, d0, d1, d2, d3⟩ := row4 hx1; have b1 := HA.out.trans (hb1.mono (by simp only [World.size_alloc]; omega))))
      | ((with_reducible refine Plan.store_lit 24 (.tmp 6) _ (w.heap.size + 1) ?_ hr1 ?_ ?_ ?_ ?_ ?_ ?_); rotate_left; (· rfl); (· rfl); (· exact dev_info); (· rfl); (· simp [Value.oneCell']); simp only [Act.put]))
    have b2 := below_setRow b1 (show w.heap.size ≤ w.heap.size + 1 by omega) #[.int .i64 size, .int .i64 op, .int .i64 act, .slice a len cap]
    refine bodyPost_ret (results_cell_tmp2 (p := 6) (q := 7) (r := 8) rfl _ _ _ _ _ _ _ rfl (setRow_heap _ _ _ _ _ _ hr1) Try.underlying24 rfl dev_info) rfl ⟨a, cap, rfl, (hz.on (Agree.below b2)).mono (fun b _ hb => .inl hb), b2⟩
set_option maxHeartbeats 1000000 in
set_option maxRecDepth 20000 in
theorem refAppend_state (F : Nat → Prop) (D : Dev) (a : Option Addr) (len cap i : Nat) (s : ByteArray) (E : Int) (w : World) (hz : ZonesIn w F a len cap D.zones) (hE : checkE D = 0) (hi : i < len)
    (h : (s.size ≠ 40 ∧ E = 2) ∨ (s.size = 40 ∧ stateAt D (i : Int) = 5 ∧ E = 6) ∨ (s.size = 40 ∧ stateAt D (i : Int) = 4 ∧ E = 7)) :
    Calls Try.prog 39 #[devV D a len cap, .int .i64 (i : Int), .string s] w (AppPost w F len D 0 E) := by
  have hck := fun W (h : Below w.heap.size w W) => refCheck05_any D a len cap W (hz.on (Agree.below h)).is
  have hB2 : Below w.heap.size w ((w.alloc (devRow D.size D.maxOpen D.maxActive a len cap)).alloc (devRow 0 0 0 none 0 0)) := ((Below.refl _ _).alloc (Nat.le_refl _) _).alloc (by simp) _
  have hiI : (i : Int) < (len : Int) := by omega
  obtain ⟨x, z, sa, sl, sc, rfl, hzk, hza, hzs⟩ := hz.zone i hi
  have hxb := zone_block hza
  rw [stateAt_of hzk] at h
  unfold AppPost
  rw [hE] at hck
  have HB := Lib.hid hck
  have HA := Lib.hid hB2
  have HZ := Lib.hid hza
  have h' : (((s.size : Int) != 40) = true ∧ E = 2) ∨ (((s.size : Int) != 40) = false ∧ (z.state == 5) = true ∧ E = 6) ∨ (((s.size : Int) != 40) = false ∧ (z.state == 5) = false ∧ (z.state == 4) = true ∧ E = 7) := by
    rcases h with ⟨h1, h2⟩ | ⟨h1, h2, h3⟩ | ⟨h1, h2, h3⟩
    · exact .inl ⟨by simp; omega, h2⟩
    · exact .inr (.inl ⟨by simp; omega, by simp [h2], h3⟩)
    · exact .inr (.inr ⟨by simp; omega, by simp [h2], by simp [h2], h3⟩)
  clear hck hB2 hE hza hzs h
  obtain ⟨size, op, act, Z⟩ := D
  rcases h' with ⟨h1, rfl⟩ | ⟨h1, h2, rfl⟩ | ⟨h1, h2, h3, rfl⟩
  all_goals
    go_enter Try.func39, Try.ntmps39
    go_wp2_with (first
      | (go_at_call 14; ((with_reducible refine (HB.out _ HA.out).mono ?_); rintro e w1 ⟨rfl, hb1⟩; have hx1 := row_on hb1 (heap_first w _ _) (by simp only [World.size_alloc]; omega); have hr1 := row_on hb1 (heap_second w _ _) (by simp only [World.size_alloc]; omega); obtain ⟨y1, d0, d1, d2, d3⟩ := row4 hx1; have b1 := HA.out.trans (hb1.mono (by simp only [World.size_alloc]; omega)); obtain ⟨zc0, zc1, zc2⟩ := HZ.out.on b1 hxb))
      | ((with_reducible refine Plan.store_lit 24 (.tmp 6) _ (w.heap.size + 1) ?_ hr1 ?_ ?_ ?_ ?_ ?_ ?_); rotate_left; (· rfl); (· rfl); (· exact dev_info); (· rfl); (· simp [Value.oneCell']); simp only [Act.put]))
    have b2 := below_setRow b1 (show w.heap.size ≤ w.heap.size + 1 by omega) #[.int .i64 size, .int .i64 op, .int .i64 act, .slice (some x) len cap]
    refine bodyPost_ret (results_cell_tmp2 (p := 6) (q := 7) (r := 8) rfl _ _ _ _ _ _ _ rfl (setRow_heap _ _ _ _ _ _ hr1) Try.underlying24 rfl dev_info) rfl ⟨some x, cap, rfl, (hz.on (Agree.below b2)).mono (fun b _ hb => .inl hb), b2⟩
end Go.Proofs.Ytlplomofgbmgaaa

/- The walk of the document's own New. -/
namespace Go.Proofs.Ytlplomofgbmgaaa
open Go.RowKit Plan ZnsMath

theorem made_cell (n j : Nat) (hj : j < n * 3) : (madeCells #[.int .i64 0, .int .i64 0, .slice none 0 0] (n * 3)).toList[j]? = some ((#[.int .i64 0, .int .i64 0, .slice none 0 0] : Array Value)[j % 3]!) := by
  simp [madeCells, hj]
theorem made_cells (w : World) (F : Nat → Prop) (n : Nat) : ZCells w F (madeCells #[.int .i64 0, .int .i64 0, .slice none 0 0] (n * 3)).toList (List.replicate n empty) := by
  refine ⟨by simp [size_madeCells], fun i z hi => ?_⟩
  have hi2 := (List.getElem?_eq_some_iff.1 hi).1
  rw [List.length_replicate] at hi2
  have hz : z = empty := by
    rw [List.getElem?_replicate, if_pos hi2] at hi
    exact (Option.some.inj hi).symm
  subst hz
  rw [made_cell n _ (by omega), made_cell n _ (by omega), made_cell n _ (by omega)]
  rw [show i * 3 % 3 = 0 by omega, show (i * 3 + 1) % 3 = 1 by omega, show (i * 3 + 2) % 3 = 2 by omega]
  exact ⟨rfl, rfl, none, 0, 0, rfl, empty_in w F⟩
set_option maxHeartbeats 1000000 in
theorem refNew_config (zones size op act : Int) (w : World) (h : zones < 1 ∨ 32 < zones) :
    Calls Try.prog 24 #[.int .i64 zones, .int .i64 size, .int .i64 op, .int .i64 act] w (DevPost w (fun _ => False) 0 zero 11) := by
  unfold DevPost
  have h' : zones < 1 ∨ (¬ zones < 1 ∧ 32 < zones) := by omega
  clear h
  rcases h' with h | ⟨h, h2⟩
  all_goals
    go_enter Try.func24, Try.ntmps24
    go_wp2
    exact bodyPost_ret (Plan.results_cell_tmp (p := 8) (q := 9) rfl _ _ _ _ _ _ _ rfl (heap_alloc_new _ _) Try.underlying24 rfl dev_info) rfl ⟨none, 0, rfl, .inl ⟨rfl, rfl, rfl, rfl⟩, (Below.refl _ _).alloc (Nat.le_refl _) _⟩
theorem new_zones {w : World} {B H n : Nat} (h : w.ownsRow B 28 3 (.slice (some ⟨H, 0, none⟩) n n) n (madeCells #[.int .i64 0, .int .i64 0, .slice none 0 0] (n * 3)).toList) : ZonesIn w (fun b => H ≤ b) (some ⟨H, 0, none⟩) n n (List.replicate n empty) := by
  obtain ⟨-, a, c, e, h⟩ := owns_zones (F := fun b => H ≤ b) h (made_cells w _ n) (fun b e => Nat.le_of_eq (Option.some.inj (show some H = some b from e)))
  cases e
  exact h
set_option maxHeartbeats 1000000 in
set_option maxRecDepth 20000 in
theorem refNew_made (n : Nat) (size op act : Int) (w : World) (h1 : 1 ≤ n) (h2 : n ≤ 32) :
    Calls Try.prog 24 #[.int .i64 (n : Int), .int .i64 size, .int .i64 op, .int .i64 act] w
      (DevPost w (fun _ => False) (if newE n size op act = 0 then n else 0) (newR n size op act) (newE n size op act)) := by
  obtain ⟨i1, hi1, hy0, hy1, hy2⟩ := info_parts zone_info6
  have hl1 : ¬ (n : Int) < 1 := by omega
  have hl2 : ¬ 32 < (n : Int) := by omega
  have hE : newE n size op act = checkE (newD n size op act) := by
    unfold newE
    rw [if_neg (by omega)]
  have hck := fun a cap W (h : IsZones W a n cap (newD n size op act).zones) => refCheck05_any (newD n size op act) a n cap W h
  have hnz : (newD n size op act).zones = List.replicate n empty := by simp [newD]
  rw [hnz] at hck
  have hck2 : ∀ a cap W, IsZones W a n cap (List.replicate n empty) → Calls Try.prog 14 #[.agg #[.int .i64 size, .int .i64 op, .int .i64 act, .slice a n cap]] W fun e w' => e = .returned (.int .i64 (newE n size op act)) ∧ Below W.heap.size W w' := by
    rw [hE]
    exact hck
  have hR : newR n size op act = if newE n size op act = 0 then ⟨size, op, act, List.replicate n empty⟩ else zero := by
    unfold newR
    simp [newD]
  rw [hR]
  unfold DevPost
  generalize newE n size op act = E at *
  have HC := Lib.hid hck2
  clear hck hck2 hnz hE hR
  by_cases h0 : E = 0
  · subst h0
    rw [if_pos rfl, if_pos rfl]
    go_enter Try.func24, Try.ntmps24
    go_wp2_with (first
      | (at_make; refine wpList_make_full _ rfl _ _ 22 rfl (w.heap.size + 1) 28 i1 _ 3 Try.underlying22 hi1 hy0 hy1 .i64 .i64 (n : Int) (n : Int) n rfl rfl rfl rfl (by rw [hy2]; omega) (by unfold maxLen; omega) (by simp) ?_; intro w1 hown1 hgrow1; simp only [World.size_alloc] at hown1; have b1 := ((Below.refl w.heap.size w).alloc (Nat.le_refl _) (devRow 0 0 0 none 0 0)).grown hgrow1 (by simp) (fun k hk => by cases hk); have hr1 := (hgrow1.block w.heap.size (by simp) (by simp)).trans (heap_alloc_new w (devRow 0 0 0 none 0 0)); have hz1 := new_zones hown1; have hz2 := hz1.on (Agree.below ((Below.refl w1.heap.size w1).alloc (Nat.le_refl _) (devRow size op act (some ⟨w.heap.size + 1, 0, none⟩) n n))); have hr2 := row_al hr1 (devRow size op act (some ⟨w.heap.size + 1, 0, none⟩) n n); have hx2 := heap_alloc_new w1 (devRow size op act (some ⟨w.heap.size + 1, 0, none⟩) n n); have b2 := b1.alloc b1.size (devRow size op act (some ⟨w.heap.size + 1, 0, none⟩) n n))
      | (go_at_call 14; ((with_reducible refine (HC.out _ _ _ hz2.is).mono ?_); rintro e w3 ⟨rfl, hb3⟩; have hr3 := row_on hb3 hr2 (lt_of_block hr2); have hx3 := row_on hb3 hx2 (lt_of_block hx2); obtain ⟨y3, d0, d1, d2, d3⟩ := row4 hx3; have b3 := b2.trans (hb3.mono b2.size)))
      | ((with_reducible refine Plan.store_lit 24 (.tmp 8) _ w.heap.size ?_ hr3 ?_ ?_ ?_ ?_ ?_ ?_); rotate_left; (· rfl); (· rfl); (· exact dev_info); (· rfl); (· simp [Value.oneCell']); simp only [Act.put]))
    have hz4 := (hz2.on (Agree.below hb3)).on (Agree.row (by show ¬ w.heap.size + 1 ≤ w.heap.size; omega : ¬ (fun b => w.heap.size + 1 ≤ b) w.heap.size) #[.int .i64 size, .int .i64 op, .int .i64 act, .slice (some ⟨w.heap.size + 1, 0, none⟩) n n])
    refine bodyPost_ret (Plan.results_cell_tmp (p := 8) (q := 9) rfl _ _ _ _ _ _ _ rfl (setRow_heap _ _ _ _ _ _ hr3) Try.underlying24 rfl dev_info) rfl ⟨_, _, rfl, hz4.mono (fun b _ hb => .inr (Nat.le_of_succ_le hb)), below_setRow b3 (Nat.le_refl _) _⟩
  · rw [if_neg h0, if_neg h0]
    have hE1 : (E != 0) = true := by simp [h0]
    go_enter Try.func24, Try.ntmps24
    go_wp2_with (first
      | (at_make; refine wpList_make_full _ rfl _ _ 22 rfl (w.heap.size + 1) 28 i1 _ 3 Try.underlying22 hi1 hy0 hy1 .i64 .i64 (n : Int) (n : Int) n rfl rfl rfl rfl (by rw [hy2]; omega) (by unfold maxLen; omega) (by simp) ?_; intro w1 hown1 hgrow1; simp only [World.size_alloc] at hown1; have b1 := ((Below.refl w.heap.size w).alloc (Nat.le_refl _) (devRow 0 0 0 none 0 0)).grown hgrow1 (by simp) (fun k hk => by cases hk); have hr1 := (hgrow1.block w.heap.size (by simp) (by simp)).trans (heap_alloc_new w (devRow 0 0 0 none 0 0)); have hz1 := new_zones hown1; have hz2 := hz1.on (Agree.below ((Below.refl w1.heap.size w1).alloc (Nat.le_refl _) (devRow size op act (some ⟨w.heap.size + 1, 0, none⟩) n n))); have hr2 := row_al hr1 (devRow size op act (some ⟨w.heap.size + 1, 0, none⟩) n n); have hx2 := heap_alloc_new w1 (devRow size op act (some ⟨w.heap.size + 1, 0, none⟩) n n); have b2 := b1.alloc b1.size (devRow size op act (some ⟨w.heap.size + 1, 0, none⟩) n n))
      | (go_at_call 14; ((with_reducible refine (HC.out _ _ _ hz2.is).mono ?_); rintro e w3 ⟨rfl, hb3⟩; have hr3 := row_on hb3 hr2 (lt_of_block hr2); have hx3 := row_on hb3 hx2 (lt_of_block hx2); obtain ⟨y3, d0, d1, d2, d3⟩ := row4 hx3; have b3 := b2.trans (hb3.mono b2.size)))
      | ((with_reducible refine Plan.store_lit 24 (.tmp 8) _ w.heap.size ?_ hr3 ?_ ?_ ?_ ?_ ?_ ?_); rotate_left; (· rfl); (· rfl); (· exact dev_info); (· rfl); (· simp [Value.oneCell']); simp only [Act.put]))
    refine bodyPost_ret (Plan.results_cell_tmp (p := 8) (q := 9) rfl _ _ _ _ _ _ _ rfl (setRow_heap _ _ _ _ _ _ hr3) Try.underlying24 rfl dev_info) rfl ⟨none, 0, rfl, .inl ⟨rfl, rfl, rfl, rfl⟩, below_setRow b3 (Nat.le_refl _) _⟩
end Go.Proofs.Ytlplomofgbmgaaa

/- The walks of the program's small functions of zones. -/
namespace Go.Proofs.Ytlplomofgbmgaaa
open Go.RowKit Plan ZnsMath

theorem isOpen_any (z : Zone) (a : Option Addr) (len cap : Nat) (w : World) :
    Calls Try.prog 61 #[zoneV z a len cap] w fun e w' => e = .returned (.bool (openB z.state)) ∧ Below w.heap.size w w' := by
  obtain ⟨st, du, L⟩ := z
  change Calls Try.prog 61 #[.agg #[.int .i64 st, .int .i64 du, .slice a len cap]] w fun e w' => e = .returned (.bool (openB st)) ∧ Below w.heap.size w w'
  go_enter Try.func61, Try.ntmps61
  go_wp2
  all_goals
    go_ret
    refine ⟨?_, (Below.refl _ _).alloc (Nat.le_refl _) _⟩
    simp [openB, *]
theorem isActive_any (z : Zone) (a : Option Addr) (len cap : Nat) (w : World) :
    Calls Try.prog 62 #[zoneV z a len cap] w fun e w' => e = .returned (.bool (activeB z.state)) ∧ Below w.heap.size w w' := by
  have hop := fun W => isOpen_any z a len cap W
  obtain ⟨st, du, L⟩ := z
  change Calls Try.prog 62 #[.agg #[.int .i64 st, .int .i64 du, .slice a len cap]] w fun e w' => e = .returned (.bool (activeB st)) ∧ Below w.heap.size w w'
  have HO := Lib.hid hop
  clear hop
  cases ho : openB st with
  | true =>
    go_enter Try.func62, Try.ntmps62
    go_wp2_with (go_at_call 61; ((with_reducible refine (HO.out _).mono ?_); rintro e w1 ⟨rfl, hb1⟩; have hx1 := row_on hb1 (heap_alloc_new w _) (by simp); obtain ⟨y1, d0, d1, d2⟩ := row3 hx1))
    all_goals
      go_ret
      refine ⟨?_, ((Below.refl _ _).alloc (Nat.le_refl _) _).trans (hb1.mono (by simp))⟩
      simp [activeB, *]
  | false =>
    go_enter Try.func62, Try.ntmps62
    go_wp2_with (go_at_call 61; ((with_reducible refine (HO.out _).mono ?_); rintro e w1 ⟨rfl, hb1⟩; have hx1 := row_on hb1 (heap_alloc_new w _) (by simp); obtain ⟨y1, d0, d1, d2⟩ := row3 hx1))
    all_goals
      go_ret
      refine ⟨?_, ((Below.refl _ _).alloc (Nat.le_refl _) _).trans (hb1.mono (by simp))⟩
      simp [activeB, *]
end Go.Proofs.Ytlplomofgbmgaaa

/- The walk of the program's Counts. -/
namespace Go.Proofs.Ytlplomofgbmgaaa
open Go.RowKit Plan ZnsMath

set_option maxHeartbeats 1000000 in
set_option maxRecDepth 20000 in
theorem counts_any (D : Dev) (a : Option Addr) (len cap : Nat) (w : World) (hz : IsZones w a len cap D.zones) :
    Calls Try.prog 54 #[devV D a len cap] w fun e w' => e = .returned (.tuple #[.int .i64 (countO D.zones : Nat), .int .i64 (countA D.zones : Nat)]) ∧ Below w.heap.size w w' := by
  have hl := hz.length
  have hm := hz.len_le
  have hat := fun W (h : Below w.heap.size w W) i (hi : i < len) => (hz.on h (Nat.le_refl _)).zone i hi
  generalize D.zones = Z at *
  have HA := Lib.hid hat
  have HL := Lib.hid hl
  clear hat hl hz
  go_enter Try.func54, Try.ntmps54
  go_wp2_with fail
  go_loopw [2, 3, 9] (fun p q c wr => ∃ k : Nat, c = .int .i64 k ∧ k ≤ len ∧ p = .int .i64 (countO (Z.take k) : Nat) ∧ q = .int .i64 (countA (Z.take k) : Nat) ∧ Below w.heap.size w wr) (fun _ _ c _ => len - (intOf c).toNat)
  case atStart => exact ⟨0, rfl, by omega, rfl, rfl, (Below.refl _ _).alloc (Nat.le_refl _) _⟩
  case round =>
    obtain ⟨k, rfl, hk, rfl, rfl, hbl⟩ := hrel
    by_cases hlt : k < len
    · obtain ⟨x, z, sa, sl, sc, rfl, hzk, ⟨c0, c1, c2⟩, -⟩ := HA.out wr hbl k hlt
      have hkI : (k : Int) < (len : Int) := by omega
      have hnext : Z.take (k + 1) = Z.take k ++ [z] := by rw [List.take_add_one, hzk]; rfl
      have o1 := countO_snoc (Z.take k) z
      have a1 := countA_snoc (Z.take k) z
      have o2 := countO_le (Z.take k)
      have a2 := countA_le (Z.take k)
      rw [List.length_take] at o2 a2
      rw [← hnext] at o1 a1
      have bl1 := hbl.alloc hbl.size (zoneRow z.state z.durable sa sl sc)
      have HO := Lib.hid (fun W => isOpen_any z sa sl sc W)
      have HC := Lib.hid (fun W => isActive_any z sa sl sc W)
      generalize countO (Z.take k) = p at *
      generalize countA (Z.take k) = q at *
      cases ho : openB z.state <;> cases hc : activeB z.state <;> rw [ho] at o1 <;> rw [hc] at a1
      all_goals
        go_wp2_with (first
          | (go_at_call 61; ((with_reducible refine (HO.out _).mono ?_); rintro e w1 ⟨rfl, hb1⟩; rw [ho]; have hx1 := row_on hb1 (heap_alloc_new wr _) (by simp only [World.size_alloc]; omega); obtain ⟨y1, e0, e1, e2⟩ := row3 hx1))
          | (go_at_call 62; ((with_reducible refine (HC.out _).mono ?_); rintro e w2 ⟨rfl, hb2⟩; rw [hc]; have b2 := bl1.trans ((hb1.mono bl1.size).trans (hb2.mono (Nat.le_trans bl1.size hb1.size))))))
        go_roundw
        case rel => exact ⟨k + 1, by go_num, by omega, by rw [o1]; simp, by rw [a1]; simp, b2⟩
        case measure => simp [intOf]; omega
    · obtain rfl : k = len := by omega
      have hfull : Z.take k = Z := List.take_of_length_le (by rw [HL.out]; exact Nat.le_refl _)
      rw [hfull]
      go_wp2_with fail
      go_ret2
      exact ⟨rfl, hbl⟩
end Go.Proofs.Ytlplomofgbmgaaa
