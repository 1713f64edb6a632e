/- Texts that belong together, part 8. -/
import Derived.Test.YtlplomofgbmgaaaPack7

/- The walk of the document's own with. -/
namespace Go.Proofs.Ytlplomofgbmgaaa
open Go.RowKit Plan ZnsMath

set_option maxHeartbeats 1000000 in
set_option maxRecDepth 20000 in
theorem refWith_any (F : Nat → Prop) (D : Dev) (a : Option Addr) (len cap k : Nat) (z : Zone) (sa : Option Addr) (sl sc : Nat) (w : World) (hz : ZonesIn w F a len cap D.zones) (hk : k < len) (hm : len ≤ 1000000) (hs : StrsIn w F sa sl sc z.sectors) :
    Calls Try.prog 47 #[devV D a len cap, .int .i64 k, zoneV z sa sl sc] w fun e w' => ∃ a' cap', e = .returned (devV (withZ D k z) a' len cap') ∧ ZonesIn w' (Plus F w.heap.size) a' len cap' (D.zones.set k z) ∧ Below w.heap.size w w' := by
  have hl := hz.is.length
  obtain ⟨size, op, act, Z⟩ := D
  obtain ⟨st, du, L⟩ := z
  change Calls Try.prog 47 #[.agg #[.int .i64 size, .int .i64 op, .int .i64 act, .slice a len cap], .int .i64 k, .agg #[.int .i64 st, .int .i64 du, .slice sa sl sc]] w fun e w' => ∃ a' cap', e = .returned (.agg #[.int .i64 size, .int .i64 op, .int .i64 act, .slice a' len cap']) ∧ ZonesIn w' (Plus F w.heap.size) a' len cap' (Z.set k ⟨st, du, L⟩) ∧ Below w.heap.size w w'
  try simp only at hz hl hs
  obtain ⟨x, rfl⟩ : ∃ x, a = some x := by
    rcases hz with ⟨_, rfl, _, _⟩ | ⟨x, rfl, _⟩
    · omega
    · exact ⟨x, rfl⟩
  obtain ⟨i1, hi1, hy0, hy1, hy2⟩ := info_parts zone_info6
  have hkI : (k : Int) < (len : Int) := by omega
  have hB3 := ((((Below.refl w.heap.size w).alloc (Nat.le_refl _) (devRow size op act (some x) len cap)).alloc (by simp) (zoneRow st du sa sl sc)).alloc (by simp; omega) (devRow 0 0 0 none 0 0)).alloc (by simp; omega) (.cells #[] 28)
  obtain ⟨C, hC1, hC2', hC3⟩ := hz.cells
  have hC2 := fun j u (hu : C[j]? = some u) => (hB3.cell (block_lt_of_cell (hC2' j u hu))).trans (hC2' j u hu)
  have O3 := zones_empty w (devRow size op act (some x) len cap) (zoneRow st du sa sl sc) (devRow 0 0 0 none 0 0)
  have r0 := row_al (row_al (row_al (heap_alloc_new w (devRow size op act (some x) len cap)) (zoneRow st du sa sl sc)) (devRow 0 0 0 none 0 0)) (.cells #[] 28)
  have r1 := row_al (row_al (heap_second w (devRow size op act (some x) len cap) (zoneRow st du sa sl sc)) (devRow 0 0 0 none 0 0)) (.cells #[] 28)
  have r2 := row_al (heap_third w (devRow size op act (some x) len cap) (zoneRow st du sa sl sc) (devRow 0 0 0 none 0 0)) (.cells #[] 28)
  have HC1 := Lib.hid hC1
  have HC2 := Lib.hid hC2
  have HC3 := Lib.hid hC3
  have HB3 := Lib.hid hB3
  have HO3 := Lib.hid O3
  have R0 := Lib.hid r0
  have R1 := Lib.hid r1
  have R2 := Lib.hid r2
  have HZ := Lib.hid hz
  have HS := Lib.hid hs
  clear hC1 hC2 hC2' hC3 hB3 O3 r0 r1 r2 hz hs
  go_enter Try.func47, Try.ntmps47
  go_wp2_with (first
    | (at_builtin; refine wpList_append_lies _ rfl _ _ 22 rfl (w.heap.size + 1 + 1 + 1) 28 i1 _ 3 40 Try.underlying22 hi1 hy0 hy1 hy2 rfl (by decide) _ 0 [] (by rfl) HO3.out x len cap C rfl (by rw [HC1.out.1, hl]) HC2.out HC3.out (by omega) (by unfold maxLen; omega) (by omega) (by simp) _ rfl ?_; intro g7 c7 w7 hown7 hgrow7 hat7 hlt7; have O7 := owns_copy hown7; obtain ⟨q0, q1, q2, q3⟩ := with_facts (R0.out) (R1.out) (R2.out) hgrow7 O7; obtain ⟨y0, e0, e1, e2, e3⟩ := row4 q0; have f0 := row_free q0 3; obtain ⟨y1, l0, l1, l2⟩ := row3 q1; have T8 := with_there (u := .slice (some ⟨g7, 0, none⟩) len c7) (H := w.heap.size) O7 HC1.out (by rw [hl]; exact hk) (by omega); have E9 := Lib.hid (with_end (k := k) (st := st) (du := du) q0 q2 q3 O7 HC1.out (by rw [hl]; exact hk) HB3.out hgrow7 (by simp) HS.out))
    | ((with_reducible refine idx_store_zone 22 28 16 (.tmp 13) (.tmp 14) (.tmp 15) g7 (k * 3) (.int .i64 st) (.int .i64 du) (.slice sa sl sc) ?_ ?_ ?_ T8 ?_ ?_ ?_); (· go_simp); (· rfl); (· rfl); (· exact zone_info); (· simp [Value.oneCell']); intro w9 e9; obtain ⟨n0, n2, n3⟩ := E9.out w9 e9; clear e9; obtain ⟨z0, m0, m1, m2, m3⟩ := row4 n0; simp only [Act.put, List.setIfInBounds_toArray, List.set_cons_zero, List.set_cons_succ])
    | ((with_reducible refine Plan.store_lit 24 (.tmp 6) _ (w.heap.size + 1 + 1) ?_ n2 ?_ ?_ ?_ ?_ ?_ ?_); rotate_left; (· rfl); (· rfl); (· exact dev_info); (· rfl); (· simp [Value.oneCell']); simp only [Act.put]))
  exact bodyPost_ret (results_cell_row rfl _ _ _ _ _ _ _ rfl (setRow_heap _ _ _ _ _ _ n2) Try.underlying24 rfl dev_info) rfl ⟨_, _, rfl, (n3 _).1, (n3 _).2⟩
end Go.Proofs.Ytlplomofgbmgaaa

/- The walks of the document's own Reset, Finish, Close. -/
namespace Go.Proofs.Ytlplomofgbmgaaa
open Go.RowKit Plan ZnsMath

/-- with, from a world that came behind -/
theorem with_from (F : Nat → Prop) (D : Dev) (a : Option Addr) (len cap k : Nat) (z : Zone) (sa : Option Addr) (sl sc : Nat) (w : World) (hz : ZonesIn w F a len cap D.zones) (hk : k < len) (hm : len ≤ 1000000) (hs : StrsIn w F sa sl sc z.sectors) :
    Calls Try.prog 47 #[devV D a len cap, .int .i64 k, zoneV z sa sl sc] w fun e w' => ∃ a' cap', e = .returned (devV (withZ D k z) a' len cap') ∧ ZonesIn w' (Plus F w.heap.size) a' len cap' (D.zones.set k z) ∧ Below w.heap.size w w' := refWith_any F D a len cap k z sa sl sc w hz hk hm hs
theorem plus_not {F : Nat → Prop} {n m r : Nat} (hF : ∀ b, F b → b < n) (h1 : n ≤ r) (h2 : r < m) : ¬ Plus F m r := by
  rintro (h | h)
  · have := hF r h; omega
  · omega
theorem begin_range {D : Dev} {k : Int} (h : beginE D k = 0) : ∃ i : Nat, k = (i : Int) ∧ i < D.zones.length ∧ checkE D = 0 ∧ stateAt D k ≠ 5 := by
  unfold beginE at h
  split at h
  · rename_i h1; exact absurd h h1
  · rename_i h1
    have h2 : zoneE D k = 0 := by omega
    have h3 := zoneE_of h2
    split at h
    · cases h
    · rename_i h4
      exact ⟨k.toNat, by omega, by omega, h3.1, h4⟩
theorem resetR_no {D : Dev} {k : Int} (h : beginE D k ≠ 0) : resetR D k = D := by unfold resetR; rw [if_neg h]
theorem resetR_yes {D : Dev} {i : Nat} (h : beginE D (i : Int) = 0) : resetR D (i : Int) = withZ D i empty := by unfold resetR; rw [if_pos h, Int.toNat_natCast]
theorem empty_in (w : World) (F : Nat → Prop) : StrsIn w F none 0 0 empty.sectors := ⟨.inl ⟨rfl, rfl, rfl, rfl⟩, fun h => by omega⟩
set_option maxHeartbeats 1000000 in
set_option maxRecDepth 20000 in
theorem refReset_any (F : Nat → Prop) (D : Dev) (a : Option Addr) (len cap : Nat) (k : Int) (w : World) (hF : ∀ b, F b → b < w.heap.size) (hz : ZonesIn w F a len cap D.zones) (hm : len ≤ 1000000) :
    Calls Try.prog 35 #[devV D a len cap, .int .i64 k] w (DevPost w F len (resetR D k) (beginE D k)) := by
  have hl := hz.is.length
  have hbg := fun W (h : Below w.heap.size w W) => refBegin_any D a len cap k W (hz.on (Agree.below h)).is
  have hB2 : Below w.heap.size w ((w.alloc (devRow D.size D.maxOpen D.maxActive a len cap)).alloc (devRow 0 0 0 none 0 0)) := ((Below.refl _ _).alloc (Nat.le_refl _) _).alloc (by simp) _
  by_cases hE : beginE D k = 0
  · obtain ⟨i, rfl, hi, -, -⟩ := begin_range hE
    rw [hl] at hi
    have hwt : ∀ W, Below w.heap.size w W → Calls Try.prog 47 #[devV D a len cap, .int .i64 i, .agg #[.int .i64 0, .int .i64 0, .slice none 0 0]] W fun e w' => ∃ a' cap', e = .returned (devV (withZ D i empty) a' len cap') ∧ ZonesIn w' (Plus F W.heap.size) a' len cap' (D.zones.set i empty) ∧ Below W.heap.size W w' := fun W h => with_from F D a len cap i empty none 0 0 W (hz.on (Agree.below h)) hi hm (empty_in W F)
    rw [resetR_yes hE, hE]
    rw [hE] at hbg
    unfold DevPost
    have HB := Lib.hid hbg
    have HW := Lib.hid hwt
    have HA := Lib.hid hB2
    clear hbg hwt hB2 hE
    obtain ⟨size, op, act, Z⟩ := D
    go_enter Try.func35, Try.ntmps35
    go_wp2_with (first
      | (go_at_call 46; ((with_reducible refine (HB.out _ HA.out).mono ?_); rintro e w1 ⟨rfl, hb1⟩; have hx1 := row_on hb1 (heap_first w _ _) (by simp; omega); have hr1 := row_on hb1 (heap_second w _ _) (by simp); obtain ⟨y1, d0, d1, d2, d3⟩ := row4 hx1; have b1 := HA.out.trans (hb1.mono (by simp; omega))))
      | (go_at_call 47; ((with_reducible refine (HW.out _ b1).mono ?_); rintro e w2 ⟨a2, c2, rfl, hz2, hb2⟩; have hr2 := row_on hb2 hr1 (lt_of_block hr1)))
      | ((with_reducible refine Plan.store_lit 24 (.tmp 4) _ (w.heap.size + 1) ?_ hr2 ?_ ?_ ?_ ?_ ?_ ?_); rotate_left; (· rfl); (· rfl); (· exact dev_info); (· rfl); (· simp [Value.oneCell']); simp only [Act.put]))
    have hz3 := hz2.on (Agree.row (plus_not hF (by omega) (by have := lt_of_block hr1; omega) : ¬ Plus F w1.heap.size (w.heap.size + 1)) #[.int .i64 size, .int .i64 op, .int .i64 act, .slice a2 len c2])
    refine bodyPost_ret (Plan.results_cell_tmp (p := 4) (q := 5) rfl _ _ _ _ _ _ _ rfl (setRow_heap _ _ _ _ _ _ hr2) Try.underlying24 rfl dev_info) rfl ⟨a2, c2, rfl, hz3.mono (fun b _ hb => hb.imp id (fun h => Nat.le_trans b1.size h)), below_setRow (b1.trans (hb2.mono b1.size)) (by omega) _⟩
  · rw [resetR_no hE]
    unfold DevPost
    generalize beginE D k = E at *
    have hE1 : (E != 0) = true := by simp [hE]
    have HB := Lib.hid hbg
    have HA := Lib.hid hB2
    clear hbg hB2 hE
    obtain ⟨size, op, act, Z⟩ := D
    go_enter Try.func35, Try.ntmps35
    go_wp2_with (first
      | (go_at_call 46; ((with_reducible refine (HB.out _ HA.out).mono ?_); rintro e w1 ⟨rfl, hb1⟩; have hx1 := row_on hb1 (heap_first w _ _) (by simp; omega); have hr1 := row_on hb1 (heap_second w _ _) (by simp); obtain ⟨y1, d0, d1, d2, d3⟩ := row4 hx1; have b1 := HA.out.trans (hb1.mono (by simp; omega))))
      | ((with_reducible refine Plan.store_lit 24 (.tmp 4) _ (w.heap.size + 1) ?_ hr1 ?_ ?_ ?_ ?_ ?_ ?_); rotate_left; (· rfl); (· rfl); (· exact dev_info); (· rfl); (· simp [Value.oneCell']); simp only [Act.put]))
    have b2 := below_setRow b1 (show w.heap.size ≤ w.heap.size + 1 by omega) #[.int .i64 size, .int .i64 op, .int .i64 act, .slice a len cap]
    refine bodyPost_ret (Plan.results_cell_tmp (p := 4) (q := 5) rfl _ _ _ _ _ _ _ rfl (setRow_heap _ _ _ _ _ _ hr1) Try.underlying24 rfl dev_info) rfl ⟨a, cap, rfl, (hz.on (Agree.below b2)).mono (fun b _ hb => .inl hb), b2⟩
end Go.Proofs.Ytlplomofgbmgaaa

/- The walks of the document's own Finish and Close. -/
namespace Go.Proofs.Ytlplomofgbmgaaa
open Go.RowKit Plan ZnsMath

theorem with_agg (F : Nat → Prop) (D : Dev) (a : Option Addr) (len cap k : Nat) (st du : Int) (L : List ByteArray) (sa : Option Addr) (sl sc : Nat) (w : World) (hz : ZonesIn w F a len cap D.zones) (hk : k < len) (hm : len ≤ 1000000) (hs : StrsIn w F sa sl sc L) :
    Calls Try.prog 47 #[devV D a len cap, .int .i64 k, .agg #[.int .i64 st, .int .i64 du, .slice sa sl sc]] w fun e w' => ∃ a' cap', e = .returned (devV (withZ D k ⟨st, du, L⟩) a' len cap') ∧ ZonesIn w' (Plus F w.heap.size) a' len cap' (D.zones.set k ⟨st, du, L⟩) ∧ Below w.heap.size w w' :=
  refWith_any F D a len cap k ⟨st, du, L⟩ sa sl sc w hz hk hm hs
theorem getD_of {Z : List Zone} {i : Nat} {z : Zone} (h : Z[i]? = some z) : Z.getD i empty = z := by rw [List.getD_eq_getElem?_getD, h]; rfl
theorem finishR_no {D : Dev} {k : Int} (h : beginE D k ≠ 0) : finishR D k = D := by unfold finishR; rw [if_neg h]
theorem finishR_yes {D : Dev} {i : Nat} {z : Zone} (h : beginE D (i : Int) = 0) (hz : D.zones[i]? = some z) : finishR D (i : Int) = withZ D i ⟨4, z.sectors.length, z.sectors⟩ := by unfold finishR; rw [if_pos h, Int.toNat_natCast, getD_of hz]; rfl
set_option maxHeartbeats 1000000 in
set_option maxRecDepth 20000 in
theorem refFinish_any (F : Nat → Prop) (D : Dev) (a : Option Addr) (len cap : Nat) (k : Int) (w : World) (hF : ∀ b, F b → b < w.heap.size) (hz : ZonesIn w F a len cap D.zones) (hm : len ≤ 1000000) :
    Calls Try.prog 36 #[devV D a len cap, .int .i64 k] w (DevPost w F len (finishR D k) (beginE D k)) := by
  have hl := hz.is.length
  have hbg := fun W (h : Below w.heap.size w W) => refBegin_any D a len cap k W (hz.on (Agree.below h)).is
  have hB2 : Below w.heap.size w ((w.alloc (devRow D.size D.maxOpen D.maxActive a len cap)).alloc (devRow 0 0 0 none 0 0)) := ((Below.refl _ _).alloc (Nat.le_refl _) _).alloc (by simp) _
  by_cases hE : beginE D k = 0
  · obtain ⟨i, rfl, hi, -, -⟩ := begin_range hE
    rw [hl] at hi
    have hiI : (i : Int) < (len : Int) := by omega
    obtain ⟨x, z, sa, sl, sc, rfl, hzk, hza, hzs⟩ := hz.zone i hi
    have hxb := zone_block hza
    have hsl := hzs.1.length
    have hwt := fun W (h : Below w.heap.size w W) => with_agg F D (some x) len cap i 4 (sl : Int) z.sectors sa sl sc W (hz.on (Agree.below h)) hi hm (hzs.on (Agree.below h))
    rw [finishR_yes hE hzk, hE, hsl]
    rw [hE] at hbg
    unfold DevPost
    have HB := Lib.hid hbg
    have HW := Lib.hid hwt
    have HA := Lib.hid hB2
    have HZ := Lib.hid hza
    clear hbg hwt hB2 hE hza
    obtain ⟨size, op, act, Z⟩ := D
    go_enter Try.func36, Try.ntmps36
    go_wp2_with (first
      | (go_at_call 46; ((with_reducible refine (HB.out _ HA.out).mono ?_); rintro e w1 ⟨rfl, hb1⟩; have hx1 := row_on hb1 (heap_first w _ _) (by simp; omega); have hr1 := row_al (row_on hb1 (heap_second w _ _) (by simp)) (zoneRow 4 (sl : Int) sa sl sc); obtain ⟨y1, d0, d1, d2, d3⟩ := row4 hx1; have b1 := HA.out.trans (hb1.mono (by simp; omega)); obtain ⟨zc0, zc1, zc2⟩ := HZ.out.on b1 hxb; have b1' := b1.alloc b1.size (zoneRow 4 (sl : Int) sa sl sc)))
      | (go_at_call 47; ((with_reducible refine (HW.out _ b1').mono ?_); rintro e w2 ⟨a2, c2, rfl, hz2, hb2⟩; have hr2 := row_on hb2 hr1 (lt_of_block hr1)))
      | ((with_reducible refine Plan.store_lit 24 (.tmp 4) _ (w.heap.size + 1) ?_ hr2 ?_ ?_ ?_ ?_ ?_ ?_); rotate_left; (· rfl); (· rfl); (· exact dev_info); (· rfl); (· simp [Value.oneCell']); simp only [Act.put]))
    have hz3 := hz2.on (Agree.row (plus_not hF (by omega) (by have := lt_of_block hr1; omega) : ¬ Plus F (w1.alloc (zoneRow 4 (sl : Int) sa sl sc)).heap.size (w.heap.size + 1)) #[.int .i64 size, .int .i64 op, .int .i64 act, .slice a2 len c2])
    refine bodyPost_ret (Plan.results_cell_tmp (p := 4) (q := 5) rfl _ _ _ _ _ _ _ rfl (setRow_heap _ _ _ _ _ _ hr2) Try.underlying24 rfl dev_info) rfl ⟨a2, c2, rfl, hz3.mono (fun b _ hb => hb.imp id (fun h => Nat.le_trans b1'.size h)), below_setRow (b1'.trans (hb2.mono b1'.size)) (by omega) _⟩
  · rw [finishR_no hE]
    unfold DevPost
    generalize beginE D k = E at *
    have hE1 : (E != 0) = true := by simp [hE]
    have HB := Lib.hid hbg
    have HA := Lib.hid hB2
    clear hbg hB2 hE
    obtain ⟨size, op, act, Z⟩ := D
    go_enter Try.func36, Try.ntmps36
    go_wp2_with (first
      | (go_at_call 46; ((with_reducible refine (HB.out _ HA.out).mono ?_); rintro e w1 ⟨rfl, hb1⟩; have hx1 := row_on hb1 (heap_first w _ _) (by simp; omega); have hr1 := row_on hb1 (heap_second w _ _) (by simp); obtain ⟨y1, d0, d1, d2, d3⟩ := row4 hx1; have b1 := HA.out.trans (hb1.mono (by simp; omega))))
      | ((with_reducible refine Plan.store_lit 24 (.tmp 4) _ (w.heap.size + 1) ?_ hr1 ?_ ?_ ?_ ?_ ?_ ?_); rotate_left; (· rfl); (· rfl); (· exact dev_info); (· rfl); (· simp [Value.oneCell']); simp only [Act.put]))
    have b2 := below_setRow b1 (show w.heap.size ≤ w.heap.size + 1 by omega) #[.int .i64 size, .int .i64 op, .int .i64 act, .slice a len cap]
    refine bodyPost_ret (Plan.results_cell_tmp (p := 4) (q := 5) rfl _ _ _ _ _ _ _ rfl (setRow_heap _ _ _ _ _ _ hr1) Try.underlying24 rfl dev_info) rfl ⟨a, cap, rfl, (hz.on (Agree.below b2)).mono (fun b _ hb => .inl hb), b2⟩
end Go.Proofs.Ytlplomofgbmgaaa

/- The walk of the document's own Close. -/
namespace Go.Proofs.Ytlplomofgbmgaaa
open Go.RowKit Plan ZnsMath

theorem stateAt_of {D : Dev} {i : Nat} {z : Zone} (h : D.zones[i]? = some z) : stateAt D (i : Int) = z.state := by unfold stateAt; rw [Int.toNat_natCast, getD_of h]
theorem refClose_err (F : Nat → Prop) (D : Dev) (a : Option Addr) (len cap : Nat) (k : Int) (w : World) (hz : ZonesIn w F a len cap D.zones) (hE : beginE D k ≠ 0) :
    Calls Try.prog 38 #[devV D a len cap, .int .i64 k] w (DevPost w F len D (beginE D k)) := by
  have hbg := fun W (h : Below w.heap.size w W) => refBegin_any D a len cap k W (hz.on (Agree.below h)).is
  have hB2 : Below w.heap.size w ((w.alloc (devRow D.size D.maxOpen D.maxActive a len cap)).alloc (devRow 0 0 0 none 0 0)) := ((Below.refl _ _).alloc (Nat.le_refl _) _).alloc (by simp) _
  unfold DevPost
  generalize beginE D k = E at *
  have hE1 : (E != 0) = true := by simp [hE]
  have HB := Lib.hid hbg
  have HA := Lib.hid hB2
  clear hbg hB2 hE
  obtain ⟨size, op, act, Z⟩ := D
  go_enter Try.func38, Try.ntmps38
  go_wp2_with (first
    | (go_at_call 46; ((with_reducible refine (HB.out _ HA.out).mono ?_); rintro e w1 ⟨rfl, hb1⟩; have hx1 := row_on hb1 (heap_first w _ _) (by simp; omega); have hr1 := row_on hb1 (heap_second w _ _) (by simp); obtain ⟨y1, d0, d1, d2, d3⟩ := row4 hx1; have b1 := HA.out.trans (hb1.mono (by simp; omega))))
    | ((with_reducible refine Plan.store_lit 24 (.tmp 4) _ (w.heap.size + 1) ?_ hr1 ?_ ?_ ?_ ?_ ?_ ?_); rotate_left; (· rfl); (· rfl); (· exact dev_info); (· rfl); (· simp [Value.oneCell']); simp only [Act.put]))
  have b2 := below_setRow b1 (show w.heap.size ≤ w.heap.size + 1 by omega) #[.int .i64 size, .int .i64 op, .int .i64 act, .slice a len cap]
  refine bodyPost_ret (Plan.results_cell_tmp (p := 4) (q := 5) rfl _ _ _ _ _ _ _ rfl (setRow_heap _ _ _ _ _ _ hr1) Try.underlying24 rfl dev_info) rfl ⟨a, cap, rfl, (hz.on (Agree.below b2)).mono (fun b _ hb => .inl hb), b2⟩
set_option maxHeartbeats 1000000 in
set_option maxRecDepth 20000 in
theorem refClose_same (F : Nat → Prop) (D : Dev) (a : Option Addr) (len cap i : Nat) (E : Int) (w : World) (hz : ZonesIn w F a len cap D.zones) (hi : i < len) (hE : beginE D (i : Int) = 0) (h : (stateAt D (i : Int) = 3 ∧ E = 0) ∨ (stateAt D (i : Int) ≠ 3 ∧ stateAt D (i : Int) ≠ 1 ∧ stateAt D (i : Int) ≠ 2 ∧ E = 6)) :
    Calls Try.prog 38 #[devV D a len cap, .int .i64 (i : Int)] w (DevPost w F len D E) := by
  have hbg := fun W (h : Below w.heap.size w W) => refBegin_any D a len cap i W (hz.on (Agree.below h)).is
  have hB2 : Below w.heap.size w ((w.alloc (devRow D.size D.maxOpen D.maxActive a len cap)).alloc (devRow 0 0 0 none 0 0)) := ((Below.refl _ _).alloc (Nat.le_refl _) _).alloc (by simp) _
  have hiI : (i : Int) < (len : Int) := by omega
  obtain ⟨x, z, sa, sl, sc, rfl, hzk, hza, hzs⟩ := hz.zone i hi
  have hxb := zone_block hza
  rw [stateAt_of hzk] at h
  rw [hE] at hbg
  unfold DevPost
  have HB := Lib.hid hbg
  have HA := Lib.hid hB2
  have HZ := Lib.hid hza
  clear hbg hB2 hE hza hzs
  obtain ⟨size, op, act, Z⟩ := D
  obtain ⟨st, du, L⟩ := z
  try simp only at h
  rcases h with ⟨h3, rfl⟩ | ⟨h3, h1, h2, rfl⟩
  · have e3 : (st == 3) = true := by simp [h3]
    clear h3
    go_enter Try.func38, Try.ntmps38
    go_wp2_with (first
      | (go_at_call 46; ((with_reducible refine (HB.out _ HA.out).mono ?_); rintro e w1 ⟨rfl, hb1⟩; have hx1 := row_on hb1 (heap_first w _ _) (by simp; omega); have hr1 := row_on hb1 (heap_second w _ _) (by simp); obtain ⟨y1, d0, d1, d2, d3⟩ := row4 hx1; have b1 := HA.out.trans (hb1.mono (by simp; omega)); obtain ⟨zc0, zc1, zc2⟩ := HZ.out.on b1 hxb))
      | ((with_reducible refine Plan.store_lit 24 (.tmp 4) _ (w.heap.size + 1) ?_ hr1 ?_ ?_ ?_ ?_ ?_ ?_); rotate_left; (· rfl); (· rfl); (· exact dev_info); (· rfl); (· simp [Value.oneCell']); simp only [Act.put]))
    have b2 := below_setRow b1 (show w.heap.size ≤ w.heap.size + 1 by omega) #[.int .i64 size, .int .i64 op, .int .i64 act, .slice (some x) len cap]
    refine bodyPost_ret (Plan.results_cell_tmp (p := 4) (q := 5) rfl _ _ _ _ _ _ _ rfl (setRow_heap _ _ _ _ _ _ hr1) Try.underlying24 rfl dev_info) rfl ⟨some x, cap, rfl, (hz.on (Agree.below b2)).mono (fun b _ hb => .inl hb), b2⟩
  · have e3 : (st == 3) = false := by simp [h3]
    have e1 : (st == 1) = false := by simp [h1]
    have e2 : (st == 2) = false := by simp [h2]
    clear h3 h1 h2
    go_enter Try.func38, Try.ntmps38
    go_wp2_with (first
      | (go_at_call 46; ((with_reducible refine (HB.out _ HA.out).mono ?_); rintro e w1 ⟨rfl, hb1⟩; have hx1 := row_on hb1 (heap_first w _ _) (by simp; omega); have hr1 := row_on hb1 (heap_second w _ _) (by simp); obtain ⟨y1, d0, d1, d2, d3⟩ := row4 hx1; have b1 := HA.out.trans (hb1.mono (by simp; omega)); obtain ⟨zc0, zc1, zc2⟩ := HZ.out.on b1 hxb))
      | ((with_reducible refine Plan.store_lit 24 (.tmp 4) _ (w.heap.size + 1) ?_ hr1 ?_ ?_ ?_ ?_ ?_ ?_); rotate_left; (· rfl); (· rfl); (· exact dev_info); (· rfl); (· simp [Value.oneCell']); simp only [Act.put]))
    have b2 := below_setRow b1 (show w.heap.size ≤ w.heap.size + 1 by omega) #[.int .i64 size, .int .i64 op, .int .i64 act, .slice (some x) len cap]
    refine bodyPost_ret (Plan.results_cell_tmp (p := 4) (q := 5) rfl _ _ _ _ _ _ _ rfl (setRow_heap _ _ _ _ _ _ hr1) Try.underlying24 rfl dev_info) rfl ⟨some x, cap, rfl, (hz.on (Agree.below b2)).mono (fun b _ hb => .inl hb), b2⟩
set_option maxHeartbeats 1000000 in
set_option maxRecDepth 20000 in
theorem refClose_shut (F : Nat → Prop) (D : Dev) (a : Option Addr) (len cap i : Nat) (w : World) (hF : ∀ b, F b → b < w.heap.size) (hz : ZonesIn w F a len cap D.zones) (hm : len ≤ 1000000) (hi : i < len) (hE : beginE D (i : Int) = 0) (h : stateAt D (i : Int) = 1 ∨ stateAt D (i : Int) = 2) :
    Calls Try.prog 38 #[devV D a len cap, .int .i64 (i : Int)] w (DevPost w F len (withZ D i (shut (D.zones.getD i empty))) 0) := by
  have hbg := fun W (h : Below w.heap.size w W) => refBegin_any D a len cap i W (hz.on (Agree.below h)).is
  have hB2 : Below w.heap.size w ((w.alloc (devRow D.size D.maxOpen D.maxActive a len cap)).alloc (devRow 0 0 0 none 0 0)) := ((Below.refl _ _).alloc (Nat.le_refl _) _).alloc (by simp) _
  have hiI : (i : Int) < (len : Int) := by omega
  obtain ⟨x, z, sa, sl, sc, rfl, hzk, hza, hzs⟩ := hz.zone i hi
  have hxb := zone_block hza
  have hsl := hzs.1.length
  rw [stateAt_of hzk] at h
  rw [hE] at hbg
  rw [getD_of hzk]
  have hsh := fun W => refShut_any z sa sl sc W hsl
  have hwt := fun W (h : Below w.heap.size w W) => with_from F D (some x) len cap i (shut z) sa sl sc W (hz.on (Agree.below h)) hi hm (show StrsIn W F sa sl sc (shut z).sectors from hzs.on (Agree.below h))
  unfold DevPost
  have HB := Lib.hid hbg
  have HS := Lib.hid hsh
  have HW := Lib.hid hwt
  have HA := Lib.hid hB2
  have HZ := Lib.hid hza
  have e3 : (z.state == 3) = false := by rcases h with h | h <;> simp [h]
  have e12 : ((z.state == 1) = true) ∨ ((z.state == 1) = false ∧ (z.state == 2) = true) := by rcases h with h | h <;> simp [h]
  clear hbg hB2 hE hza hsh hwt h
  obtain ⟨size, op, act, Z⟩ := D
  rcases e12 with e1 | ⟨e1, e2⟩
  all_goals
    go_enter Try.func38, Try.ntmps38
    go_wp2_with (first
      | (go_at_call 46; ((with_reducible refine (HB.out _ HA.out).mono ?_); rintro e w1 ⟨rfl, hb1⟩; have hx1 := row_on hb1 (heap_first w _ _) (by simp; omega); have hr1 := row_on hb1 (heap_second w _ _) (by simp); obtain ⟨y1, d0, d1, d2, d3⟩ := row4 hx1; have b1 := HA.out.trans (hb1.mono (by simp; omega)); have hza1 := HZ.out.on b1 hxb; obtain ⟨zc0, zc1, zc2⟩ := hza1)))
    refine Plan.start (fun W => DevAt W w.heap.size size op act (some x) len cap ∧ ZoneAt W x i z sa sl sc) [(0, true), (1, true), (2, true), (3, true), (4, true), (5, true), (6, true), (7, false), (8, false), (9, false), (10, true)] (by kernel_rfl) (by kernel_rfl) (by kernel_rfl) (by kernel_rfl) ⟨⟨d0, d1, d2, d3⟩, zc0, zc1, zc2⟩ ?_
    simp only [List.map_cons, List.map_nil, List.getElem?_toArray, List.getElem?_cons_zero, List.getElem?_cons_succ]
    repeat (first | (refine Plan.take ?_ (by rfl) ?_ ?_; rotate_left; (· rintro w9 ⟨⟨e0, e1, e2, e3⟩, z0, z1, z2⟩; go_simp; (try rw [if_neg (by omega)]); all_goals (with_reducible rfl)); simp only [Act.put, List.setIfInBounds_toArray, List.set_cons_zero, List.set_cons_succ]) | (refine Plan.pass (by rfl) ?_; simp only [Act.put, List.setIfInBounds_toArray, List.set_cons_zero, List.set_cons_succ]))
    refine Plan.call (by rfl) 49 _ ?_ (HS.out _) ?_
    · go_simp
    rintro e w4 ⟨rfl, hb4⟩
    have hb4 := (Below.refl w1.heap.size w1).drew.trans hb4
    have hx4 := row_on hb4 hx1 (lt_of_block hx1)
    have hr4 := row_on hb4 hr1 (lt_of_block hr1)
    have b4 := b1.trans (hb4.mono b1.size)
    refine ⟨_, rfl, ⟨(row4 hx4).2, HZ.out.on b4 hxb⟩, ?_⟩
    simp only [Act.put, List.setIfInBounds_toArray, List.set_cons_zero, List.set_cons_succ]
    refine Plan.call (by rfl) 47 _ ?_ (HW.out _ b4) ?_
    · go_simp
    rintro e w5 ⟨a2, c2, rfl, hz2, hb5⟩
    have hx5 := row_on hb5 hx4 (lt_of_block hx4)
    have hr5 := row_on hb5 hr4 (lt_of_block hr4)
    have b5 := b4.trans (hb5.mono b4.size)
    refine ⟨_, rfl, ⟨(row4 hx5).2, HZ.out.on b5 hxb⟩, ?_⟩
    simp only [Act.put, List.setIfInBounds_toArray, List.set_cons_zero, List.set_cons_succ]
    have b6 := below_setRow b5 (show w.heap.size ≤ w.heap.size + 1 by omega) #[.int .i64 size, .int .i64 op, .int .i64 act, .slice a2 len c2]
    have hx6 := (setRow_other w5 (w.heap.size + 1) w.heap.size #[.int .i64 size, .int .i64 op, .int .i64 act, .slice a2 len c2] (by omega)).trans hx5
    refine Plan.store (by rfl) 24 _ _ rfl (w.heap.size + 1) #[.int .i64 size, .int .i64 op, .int .i64 act, .slice a2 len c2] (by rfl) (by rfl) 24 _ hr5 dev_info rfl (by simp [Value.oneCell']) ⟨(row4 hx6).2, HZ.out.on b6 hxb⟩ ?_
    simp only [Act.put]
    repeat (first | (refine Plan.take ?_ (by rfl) ?_ ?_; rotate_left; (· rintro w9 ⟨⟨e0, e1, e2, e3⟩, z0, z1, z2⟩; go_simp; (try rw [if_neg (by omega)]); all_goals (with_reducible rfl)); simp only [Act.put, List.setIfInBounds_toArray, List.set_cons_zero, List.set_cons_succ]) | (refine Plan.pass (by rfl) ?_; simp only [Act.put, List.setIfInBounds_toArray, List.set_cons_zero, List.set_cons_succ]))
    refine Plan.ends ?_
    go_wp2_with fail
    have hz3 := hz2.on (Agree.row (plus_not hF (by omega) (by have := lt_of_block hr4; omega) : ¬ Plus F w4.heap.size (w.heap.size + 1)) #[.int .i64 size, .int .i64 op, .int .i64 act, .slice a2 len c2])
    refine bodyPost_ret (Plan.results_cell_tmp (p := 4) (q := 5) rfl _ _ _ _ _ _ _ rfl (setRow_heap _ _ _ _ _ _ hr5) Try.underlying24 rfl dev_info) rfl ⟨a2, c2, rfl, hz3.mono (fun b _ hb => hb.imp id (fun h => Nat.le_trans b4.size h)), b6⟩
theorem refClose_any (F : Nat → Prop) (D : Dev) (a : Option Addr) (len cap : Nat) (k : Int) (w : World) (hF : ∀ b, F b → b < w.heap.size) (hz : ZonesIn w F a len cap D.zones) (hm : len ≤ 1000000) :
    Calls Try.prog 38 #[devV D a len cap, .int .i64 k] w (DevPost w F len (closeR D k) (closeE D k)) := by
  by_cases hE : beginE D k = 0
  · obtain ⟨i, rfl, hi, -, -⟩ := begin_range hE
    rw [hz.is.length] at hi
    by_cases h3 : stateAt D (i : Int) = 3
    · have hc : closeE D (i : Int) = 0 := by simp [closeE, hE, activeB, openB, h3]
      have hr : closeR D (i : Int) = D := by simp [closeR, hc, h3]
      rw [hc, hr]
      exact refClose_same F D a len cap i 0 w hz hi hE (.inl ⟨h3, rfl⟩)
    · by_cases h12 : stateAt D (i : Int) = 1 ∨ stateAt D (i : Int) = 2
      · have hc : closeE D (i : Int) = 0 := by rcases h12 with h | h <;> simp [closeE, hE, activeB, openB, h]
        have hr : closeR D (i : Int) = withZ D i (shut (D.zones.getD i empty)) := by simp [closeR, hc, h3]
        rw [hc, hr]
        exact refClose_shut F D a len cap i w hF hz hm hi hE h12
      · have hc : closeE D (i : Int) = 6 := by
          have : ¬ stateAt D (i : Int) = 1 ∧ ¬ stateAt D (i : Int) = 2 := by omega
          simp [closeE, hE, activeB, openB, h3, this.1, this.2]
        have hr : closeR D (i : Int) = D := by simp [closeR, hc]
        rw [hc, hr]
        exact refClose_same F D a len cap i 6 w hz hi hE (.inr ⟨h3, by omega, by omega, rfl⟩)
  · have hc : closeE D k = beginE D k := by simp [closeE, hE]
    have hr : closeR D k = D := by simp [closeR, hc, hE]
    rw [hc, hr]
    exact refClose_err F D a len cap k w hz hE
end Go.Proofs.Ytlplomofgbmgaaa

/- The walk of the document's own room. -/
namespace Go.Proofs.Ytlplomofgbmgaaa
open Go.RowKit Plan ZnsMath

theorem first_le : ∀ Z : List Zone, firstOpen Z ≤ Z.length
  | [] => Nat.le_refl _
  | z :: Z => by
    have := first_le Z
    unfold firstOpen
    split
    · omega
    · simp; omega
theorem first_ne : ∀ (Z : List Zone) (j : Nat) (z : Zone), j < firstOpen Z → Z[j]? = some z → z.state ≠ 1
  | [], j, z, h, hz => by cases hz
  | y :: Z, j, z, h, hz => by
    unfold firstOpen at h
    split at h
    · omega
    · rename_i h1
      cases j with
      | zero =>
        obtain rfl : y = z := by simpa using hz
        exact h1
      | succ j => exact first_ne Z j z (by omega) (by simpa using hz)
theorem first_eq : ∀ (Z : List Zone) (z : Zone), Z[firstOpen Z]? = some z → z.state = 1
  | [], z, hz => by cases hz
  | y :: Z, z, hz => by
    unfold firstOpen at hz
    split at hz
    · rename_i h1
      obtain rfl : y = z := by simpa using hz
      exact h1
    · exact first_eq Z z (by simpa using hz)
theorem bool_of {p : Prop} [Decidable p] (h : p) : decide p = true := by simp [h]
set_option maxHeartbeats 1000000 in
set_option maxRecDepth 20000 in
theorem refRoom_free (F : Nat → Prop) (D : Dev) (a : Option Addr) (len cap i : Nat) (w : World) (hz : ZonesIn w F a len cap D.zones) (hi : i < len) (hO : ¬ D.maxOpen ≤ countO D.zones) :
    Calls Try.prog 48 #[devV D a len cap, .int .i64 (i : Int)] w (DevPost w F len D (if activeB (D.zones.getD i empty).state = false ∧ D.maxActive ≤ countA D.zones then 9 else 0)) := by
  have hl := hz.is.length
  have hlm := hz.is.len_le
  have hcn := fun W (h : Below w.heap.size w W) => refCounts_any D a len cap W (hz.on (Agree.below h)).is hlm
  have hB3 : Below w.heap.size w (((w.alloc (devRow D.size D.maxOpen D.maxActive a len cap)).alloc (devRow 0 0 0 none 0 0)).alloc (devRow D.size D.maxOpen D.maxActive a len cap)) := (((Below.refl _ _).alloc (Nat.le_refl _) _).alloc (by simp only [World.size_alloc]; omega) _).alloc (by simp only [World.size_alloc]; omega) _
  have hiI : (i : Int) < (len : Int) := by omega
  obtain ⟨x, z, sa, sl, sc, rfl, hzk, hza, -⟩ := hz.zone i hi
  have hxb := zone_block hza
  rw [getD_of hzk]
  have hact := refActive_any z.state
  unfold DevPost
  generalize hCO : countO D.zones = CO at *
  generalize hCA : countA D.zones = CA at *
  generalize hAB : activeB z.state = AB at *
  have HC := Lib.hid hcn
  have HA := Lib.hid hB3
  have HZ := Lib.hid hza
  have HT := Lib.hid hact
  clear hcn hB3 hza hact hCO hCA hAB
  obtain ⟨size, op, act, Z⟩ := D
  try simp only at hO
  have hsplit : (AB = false ∧ act ≤ CA) ∨ AB = true ∨ (AB = false ∧ ¬ act ≤ CA) := by
    cases AB
    · by_cases h : act ≤ CA
      · exact .inl ⟨rfl, h⟩
      · exact .inr (.inr ⟨rfl, h⟩)
    · exact .inr (.inl rfl)
  have hE : ∀ E, (if AB = false ∧ act ≤ CA then (9 : Int) else 0) = E → ((AB = false ∧ act ≤ CA) → E = 9) ∧ (¬(AB = false ∧ act ≤ CA) → E = 0) := fun E h => ⟨fun h1 => by rw [← h, if_pos h1], fun h1 => by rw [← h, if_neg h1]⟩
  have hE' := hE _ rfl
  generalize (if AB = false ∧ act ≤ CA then (9 : Int) else 0) = E at *
  clear hE
  rcases hsplit with ⟨rfl, h9⟩ | rfl | ⟨rfl, h9⟩
  · obtain rfl := hE'.1 ⟨rfl, h9⟩
    clear hE'
    go_enter Try.func48, Try.ntmps48
    go_wp2_with (first
      | (go_at_call 33; ((with_reducible refine (HC.out _ HA.out).mono ?_); rintro e w1 ⟨rfl, hb1⟩; have hx1 := row_on hb1 (row_al (heap_first w _ _) _) (by simp only [World.size_alloc]; omega); have hr1 := row_on hb1 (row_al (heap_second w _ _) _) (by simp only [World.size_alloc]; omega); have hy1 := row_on hb1 (heap_third w _ _ _) (by simp only [World.size_alloc]; omega); obtain ⟨y1, d0, d1, d2, d3⟩ := row4 hx1; obtain ⟨y3, l0, l1, l2, l3⟩ := row4 hy1; have b1 := HA.out.trans (hb1.mono (by simp only [World.size_alloc]; omega))))
      | (go_at_call 33; ((with_reducible refine (HC.out _ b1).mono ?_); rintro e w2 ⟨rfl, hb2⟩; have hx2 := row_on hb2 hx1 (lt_of_block hx1); have hr2 := row_on hb2 hr1 (lt_of_block hr1); have hy2 := row_on hb2 hy1 (lt_of_block hy1); obtain ⟨y4, d0, d1, d2, d3⟩ := row4 hx2; obtain ⟨y5, l0, l1, l2, l3⟩ := row4 hy2; have b2 := b1.trans (hb2.mono b1.size); obtain ⟨zc0, zc1, zc2⟩ := HZ.out.on b2 hxb))
      | (go_at_call 45; ((with_reducible refine (HT.out _).mono ?_); rintro e w3 ⟨rfl, rfl⟩))
      | ((with_reducible refine Plan.store_lit 24 (.tmp 4) _ (w.heap.size + 1) ?_ hr2 ?_ ?_ ?_ ?_ ?_ ?_); rotate_left; (· rfl); (· rfl); (· exact dev_info); (· rfl); (· simp [Value.oneCell']); simp only [Act.put]))
    have b3 := below_setRow b2 (show w.heap.size ≤ w.heap.size + 1 by omega) #[.int .i64 size, .int .i64 op, .int .i64 act, .slice (some x) len cap]
    refine bodyPost_ret (Plan.results_cell_tmp (p := 4) (q := 5) rfl _ _ _ _ _ _ _ rfl (setRow_heap _ _ _ _ _ _ hr2) Try.underlying24 rfl dev_info) rfl ⟨some x, cap, rfl, (hz.on (Agree.below b3)).mono (fun b _ hb => .inl hb), b3⟩
  · obtain rfl := hE'.2 (by simp)
    clear hE'
    go_enter Try.func48, Try.ntmps48
    go_wp2_with (first
      | (go_at_call 33; ((with_reducible refine (HC.out _ HA.out).mono ?_); rintro e w1 ⟨rfl, hb1⟩; have hx1 := row_on hb1 (row_al (heap_first w _ _) _) (by simp only [World.size_alloc]; omega); have hr1 := row_on hb1 (row_al (heap_second w _ _) _) (by simp only [World.size_alloc]; omega); have hy1 := row_on hb1 (heap_third w _ _ _) (by simp only [World.size_alloc]; omega); obtain ⟨y1, d0, d1, d2, d3⟩ := row4 hx1; obtain ⟨y3, l0, l1, l2, l3⟩ := row4 hy1; have b1 := HA.out.trans (hb1.mono (by simp only [World.size_alloc]; omega))))
      | (go_at_call 33; ((with_reducible refine (HC.out _ b1).mono ?_); rintro e w2 ⟨rfl, hb2⟩; have hx2 := row_on hb2 hx1 (lt_of_block hx1); have hr2 := row_on hb2 hr1 (lt_of_block hr1); have hy2 := row_on hb2 hy1 (lt_of_block hy1); obtain ⟨y4, d0, d1, d2, d3⟩ := row4 hx2; obtain ⟨y5, l0, l1, l2, l3⟩ := row4 hy2; have b2 := b1.trans (hb2.mono b1.size); obtain ⟨zc0, zc1, zc2⟩ := HZ.out.on b2 hxb))
      | (go_at_call 45; ((with_reducible refine (HT.out _).mono ?_); rintro e w3 ⟨rfl, rfl⟩))
      | ((with_reducible refine Plan.store_lit 24 (.tmp 4) _ (w.heap.size + 1) ?_ hr2 ?_ ?_ ?_ ?_ ?_ ?_); rotate_left; (· rfl); (· rfl); (· exact dev_info); (· rfl); (· simp [Value.oneCell']); simp only [Act.put]))
    have b3 := below_setRow b2 (show w.heap.size ≤ w.heap.size + 1 by omega) #[.int .i64 size, .int .i64 op, .int .i64 act, .slice (some x) len cap]
    refine bodyPost_ret (Plan.results_cell_tmp (p := 4) (q := 5) rfl _ _ _ _ _ _ _ rfl (setRow_heap _ _ _ _ _ _ hr2) Try.underlying24 rfl dev_info) rfl ⟨some x, cap, rfl, (hz.on (Agree.below b3)).mono (fun b _ hb => .inl hb), b3⟩
  · obtain rfl := hE'.2 (fun h => h9 h.2)
    clear hE'
    go_enter Try.func48, Try.ntmps48
    go_wp2_with (first
      | (go_at_call 33; ((with_reducible refine (HC.out _ HA.out).mono ?_); rintro e w1 ⟨rfl, hb1⟩; have hx1 := row_on hb1 (row_al (heap_first w _ _) _) (by simp only [World.size_alloc]; omega); have hr1 := row_on hb1 (row_al (heap_second w _ _) _) (by simp only [World.size_alloc]; omega); have hy1 := row_on hb1 (heap_third w _ _ _) (by simp only [World.size_alloc]; omega); obtain ⟨y1, d0, d1, d2, d3⟩ := row4 hx1; obtain ⟨y3, l0, l1, l2, l3⟩ := row4 hy1; have b1 := HA.out.trans (hb1.mono (by simp only [World.size_alloc]; omega))))
      | (go_at_call 33; ((with_reducible refine (HC.out _ b1).mono ?_); rintro e w2 ⟨rfl, hb2⟩; have hx2 := row_on hb2 hx1 (lt_of_block hx1); have hr2 := row_on hb2 hr1 (lt_of_block hr1); have hy2 := row_on hb2 hy1 (lt_of_block hy1); obtain ⟨y4, d0, d1, d2, d3⟩ := row4 hx2; obtain ⟨y5, l0, l1, l2, l3⟩ := row4 hy2; have b2 := b1.trans (hb2.mono b1.size); obtain ⟨zc0, zc1, zc2⟩ := HZ.out.on b2 hxb))
      | (go_at_call 45; ((with_reducible refine (HT.out _).mono ?_); rintro e w3 ⟨rfl, rfl⟩))
      | ((with_reducible refine Plan.store_lit 24 (.tmp 4) _ (w.heap.size + 1) ?_ hr2 ?_ ?_ ?_ ?_ ?_ ?_); rotate_left; (· rfl); (· rfl); (· exact dev_info); (· rfl); (· simp [Value.oneCell']); simp only [Act.put]))
    have b3 := below_setRow b2 (show w.heap.size ≤ w.heap.size + 1 by omega) #[.int .i64 size, .int .i64 op, .int .i64 act, .slice (some x) len cap]
    refine bodyPost_ret (Plan.results_cell_tmp (p := 4) (q := 5) rfl _ _ _ _ _ _ _ rfl (setRow_heap _ _ _ _ _ _ hr2) Try.underlying24 rfl dev_info) rfl ⟨some x, cap, rfl, (hz.on (Agree.below b3)).mono (fun b _ hb => .inl hb), b3⟩
set_option maxHeartbeats 1000000 in
set_option maxRecDepth 20000 in
theorem refRoom_none (F : Nat → Prop) (D : Dev) (a : Option Addr) (len cap i : Nat) (w : World) (hz : ZonesIn w F a len cap D.zones) (hO : D.maxOpen ≤ countO D.zones) (hf : firstOpen D.zones = D.zones.length) :
    Calls Try.prog 48 #[devV D a len cap, .int .i64 (i : Int)] w (DevPost w F len D 8) := by
  have hl := hz.is.length
  have hlm := hz.is.len_le
  have hcn := fun W (h : Below w.heap.size w W) => refCounts_any D a len cap W (hz.on (Agree.below h)).is hlm
  have hB3 : Below w.heap.size w (((w.alloc (devRow D.size D.maxOpen D.maxActive a len cap)).alloc (devRow 0 0 0 none 0 0)).alloc (devRow D.size D.maxOpen D.maxActive a len cap)) := (((Below.refl _ _).alloc (Nat.le_refl _) _).alloc (by simp only [World.size_alloc]; omega) _).alloc (by simp only [World.size_alloc]; omega) _
  have hR := fun W (h : Below w.heap.size w W) j (hj : j < len) => (hz.on (Agree.below h)).zone j hj
  have hne := first_ne D.zones
  rw [hf, hl] at hne
  unfold DevPost
  generalize hCO : countO D.zones = CO at *
  generalize hCA : countA D.zones = CA at *
  have HC := Lib.hid hcn
  have HA := Lib.hid hB3
  have HR := Lib.hid hR
  have HN := Lib.hid hne
  clear hcn hB3 hR hne hCO hCA hf
  obtain ⟨size, op, act, Z⟩ := D
  try simp only at hO
  go_enter Try.func48, Try.ntmps48
  go_wp2_with (go_at_call 33; ((with_reducible refine (HC.out _ HA.out).mono ?_); rintro e w1 ⟨rfl, hb1⟩; have hx1 := row_on hb1 (row_al (heap_first w _ _) _) (by simp only [World.size_alloc]; omega); have hr1 := row_on hb1 (row_al (heap_second w _ _) _) (by simp only [World.size_alloc]; omega); obtain ⟨y1, d0, d1, d2, d3⟩ := row4 hx1; have b1 := HA.out.trans (hb1.mono (by simp only [World.size_alloc]; omega))))
  go_loop [9] (fun c => ∃ j : Nat, c = .int .i64 j ∧ j ≤ len) (fun c => len - (intOf c).toNat)
  case atStart => exact ⟨0, rfl, by omega⟩
  case round =>
    obtain ⟨j, rfl, hj⟩ := hrel
    by_cases hlt : j < len
    · obtain ⟨x, z, sa, sl, sc, rfl, hzk, ⟨zc0, zc1, zc2⟩, -⟩ := HR.out w1 b1 j hlt
      have hjI : (j : Int) < (len : Int) := by omega
      have hs1 : (z.state != 1) = true := by simp [HN.out j z hlt hzk]
      go_wp2_with fail
      go_round
      case rel => exact ⟨j + 1, by go_num, by omega⟩
      case measure => simp [intOf]; omega
    · obtain rfl : j = len := by omega
      go_wp2_with ((with_reducible refine Plan.store_lit 24 (.tmp 4) _ (w.heap.size + 1) ?_ hr1 ?_ ?_ ?_ ?_ ?_ ?_); rotate_left; (· rfl); (· rfl); (· exact dev_info); (· rfl); (· simp [Value.oneCell']); simp only [Act.put])
      have b3 := below_setRow b1 (show w.heap.size ≤ w.heap.size + 1 by omega) #[.int .i64 size, .int .i64 op, .int .i64 act, .slice a j cap]
      refine bodyPost_ret (Plan.results_cell_tmp (p := 4) (q := 5) rfl _ _ _ _ _ _ _ rfl (setRow_heap _ _ _ _ _ _ hr1) Try.underlying24 rfl dev_info) rfl ⟨a, cap, rfl, (hz.on (Agree.below b3)).mono (fun b _ hb => .inl hb), b3⟩
end Go.Proofs.Ytlplomofgbmgaaa

/- The walk of the document's own room where a zone is closed for it. -/
namespace Go.Proofs.Ytlplomofgbmgaaa
open Go.RowKit Plan ZnsMath

set_option maxHeartbeats 2000000 in
set_option maxRecDepth 20000 in
theorem refRoom_clear (F : Nat → Prop) (D : Dev) (a : Option Addr) (len cap i : Nat) (w : World) (hF : ∀ b, F b → b < w.heap.size) (hz : ZonesIn w F a len cap D.zones) (hm : len ≤ 1000000) (hi : i < len) (hO : D.maxOpen ≤ countO D.zones) (hf : firstOpen D.zones < D.zones.length) :
    Calls Try.prog 48 #[devV D a len cap, .int .i64 (i : Int)] w (DevPost w F len
      (if activeB (D.zones.getD i empty).state = false ∧ D.maxActive ≤ countA (withZ D (firstOpen D.zones) (shut (D.zones.getD (firstOpen D.zones) empty))).zones then D else withZ D (firstOpen D.zones) (shut (D.zones.getD (firstOpen D.zones) empty)))
      (if activeB (D.zones.getD i empty).state = false ∧ D.maxActive ≤ countA (withZ D (firstOpen D.zones) (shut (D.zones.getD (firstOpen D.zones) empty))).zones then 9 else 0)) := by
  have hl := hz.is.length
  have hlm := hz.is.len_le
  have hcn := fun W (h : Below w.heap.size w W) => refCounts_any D a len cap W (hz.on (Agree.below h)).is hlm
  have hB3 : Below w.heap.size w (((w.alloc (devRow D.size D.maxOpen D.maxActive a len cap)).alloc (devRow 0 0 0 none 0 0)).alloc (devRow D.size D.maxOpen D.maxActive a len cap)) := (((Below.refl _ _).alloc (Nat.le_refl _) _).alloc (by simp only [World.size_alloc]; omega) _).alloc (by simp only [World.size_alloc]; omega) _
  have hR := fun W (h : Below w.heap.size w W) j (hj : j < len) => (hz.on (Agree.below h)).zone j hj
  have hne := first_ne D.zones
  have heq := first_eq D.zones
  have hiI : (i : Int) < (len : Int) := by omega
  obtain ⟨x, z, sa, sl, sc, rfl, hzk, hza, -⟩ := hz.zone i hi
  have hxb := zone_block hza
  have hact := refActive_any z.state
  rw [getD_of hzk]
  rw [hl] at hf
  obtain ⟨fo, hfo⟩ : ∃ fo, firstOpen D.zones = fo := ⟨_, rfl⟩
  rw [hfo] at hne heq hf ⊢
  have hfI : (fo : Int) < (len : Int) := by omega
  have hfe : ((fo : Int) == (len : Int)) = false := by simp; omega
  obtain ⟨x', y, ta, tl, tc, hx', hyk, hya, hys⟩ := hz.zone fo hf
  obtain rfl := Option.some.inj hx'
  have hs1 := heq y hyk
  have htl := hys.1.length
  rw [getD_of hyk]
  have hsh := fun W => refShut_any y ta tl tc W htl
  have hwt := fun W (h : Below w.heap.size w W) => with_from F D (some x) len cap fo (shut y) ta tl tc W (hz.on (Agree.below h)) hf hm (show StrsIn W F ta tl tc (shut y).sectors from hys.on (Agree.below h))
  have hcn2 := fun W a2 c2 (h : IsZones W a2 len c2 (withZ D fo (shut y)).zones) => refCounts_any (withZ D fo (shut y)) a2 len c2 W h hlm
  unfold DevPost
  generalize hCO : countO D.zones = CO at *
  generalize hCA : countA D.zones = CA at *
  generalize hCO2 : countO (withZ D fo (shut y)).zones = CO2 at *
  generalize hCA2 : countA (withZ D fo (shut y)).zones = CA2 at *
  generalize hAB : activeB z.state = AB at *
  generalize hDD : (if AB = false ∧ D.maxActive ≤ CA2 then D else withZ D fo (shut y)) = DD
  generalize hEE : (if AB = false ∧ D.maxActive ≤ CA2 then (9 : Int) else 0) = EE
  have HDD := Lib.hid hDD
  have HEE := Lib.hid hEE
  have HC := Lib.hid hcn
  have HC2 := Lib.hid hcn2
  have HA := Lib.hid hB3
  have HR := Lib.hid hR
  have HN := Lib.hid hne
  have HZ := Lib.hid hza
  have HY := Lib.hid hya
  have HT := Lib.hid hact
  have HS := Lib.hid hsh
  have HW := Lib.hid hwt
  have hs1' : (y.state != 1) = false := by simp [hs1]
  clear hDD hEE hcn hcn2 hB3 hR hne heq hza hya hact hsh hwt hCO hCA hCO2 hCA2 hAB hfo hx' hs1 hys
  obtain ⟨size, op, act, Z⟩ := D
  try simp only at hO hyk hzk
  go_enter Try.func48, Try.ntmps48
  go_wp2_with (go_at_call 33; ((with_reducible refine (HC.out _ HA.out).mono ?_); rintro e w1 ⟨rfl, hb1⟩; have hx1 := row_on hb1 (row_al (heap_first w _ _) _) (by simp only [World.size_alloc]; omega); have hr1 := row_on hb1 (row_al (heap_second w _ _) _) (by simp only [World.size_alloc]; omega); have hv1 := row_on hb1 (heap_third w _ _ _) (by simp only [World.size_alloc]; omega); obtain ⟨y1, d0, d1, d2, d3⟩ := row4 hx1; have b1 := HA.out.trans (hb1.mono (by simp only [World.size_alloc]; omega))))
  go_loop [9] (fun c => ∃ j : Nat, c = .int .i64 j ∧ j ≤ fo) (fun c => len - (intOf c).toNat)
  case atStart => exact ⟨0, rfl, by omega⟩
  case round =>
    obtain ⟨j, rfl, hj⟩ := hrel
    by_cases hlt : j < fo
    · obtain ⟨x2, z2, sa2, sl2, sc2, hx2, hzk2, ⟨zc0, zc1, zc2⟩, -⟩ := HR.out w1 b1 j (by omega)
      obtain rfl := Option.some.inj hx2
      have hjI : (j : Int) < (len : Int) := by omega
      have hs2 : (z2.state != 1) = true := by simp [HN.out j z2 hlt hzk2]
      go_wp2_with fail
      go_round
      case rel => exact ⟨j + 1, by go_num, by omega⟩
      case measure => simp [intOf]; omega
    · obtain rfl : j = fo := by omega
      have hya1 := HY.out.on b1 hxb
      obtain ⟨zc0, zc1, zc2⟩ := hya1
      go_wp2_with fail
      refine Plan.start (fun W => DevAt W w.heap.size size op act (some x) len cap ∧ ZoneAt W x j y ta tl tc) [(0, true), (1, true), (2, true), (3, true), (4, true), (5, true), (6, true), (7, false), (8, false), (9, false)] (by kernel_rfl) (by kernel_rfl) (by kernel_rfl) (by kernel_rfl) ⟨⟨d0, d1, d2, d3⟩, zc0, zc1, zc2⟩ ?_
      simp only [List.map_cons, List.map_nil, List.getElem?_toArray, List.getElem?_cons_zero, List.getElem?_cons_succ]
      repeat (first | (refine Plan.take ?_ (by rfl) ?_ ?_; rotate_left; (· rintro w9 ⟨⟨e0, e1, e2, e3⟩, z0, z1, z2⟩; go_simp; (try rw [if_neg (by omega)]); all_goals (with_reducible rfl)); simp only [Act.put, List.setIfInBounds_toArray, List.set_cons_zero, List.set_cons_succ]) | (refine Plan.pass (by rfl) ?_; simp only [Act.put, List.setIfInBounds_toArray, List.set_cons_zero, List.set_cons_succ]))
      refine Plan.call (by rfl) 49 _ ?_ (HS.out _) ?_
      · go_simp
      rintro e w4 ⟨rfl, hb4⟩
      have hb4 := (Below.refl w1.heap.size w1).drew.trans hb4
      have hx4 := row_on hb4 hx1 (lt_of_block hx1)
      have hr4 := row_on hb4 hr1 (lt_of_block hr1)
      have hv4 := row_on hb4 hv1 (lt_of_block hv1)
      have b4 := b1.trans (hb4.mono b1.size)
      refine ⟨_, rfl, ⟨(row4 hx4).2, HY.out.on b4 hxb⟩, ?_⟩
      simp only [Act.put, List.setIfInBounds_toArray, List.set_cons_zero, List.set_cons_succ]
      refine Plan.call (by rfl) 47 _ ?_ (HW.out _ b4) ?_
      · go_simp
      rintro e w5 ⟨a2, c2, rfl, hz2, hb5⟩
      have hx5 := row_on hb5 hx4 (lt_of_block hx4)
      have hr5 := row_on hb5 hr4 (lt_of_block hr4)
      have hv5 := row_on hb5 hv4 (lt_of_block hv4)
      have b5 := b4.trans (hb5.mono b4.size)
      refine ⟨_, rfl, ⟨(row4 hx5).2, HY.out.on b5 hxb⟩, ?_⟩
      simp only [Act.put, List.setIfInBounds_toArray, List.set_cons_zero, List.set_cons_succ]
      have b6 := below_setRow b5 (show w.heap.size ≤ w.heap.size + 1 + 1 by omega) #[.int .i64 size, .int .i64 op, .int .i64 act, .slice a2 len c2]
      have hx6 := (setRow_other w5 (w.heap.size + 1 + 1) w.heap.size #[.int .i64 size, .int .i64 op, .int .i64 act, .slice a2 len c2] (by omega)).trans hx5
      have hr6 := (setRow_other w5 (w.heap.size + 1 + 1) (w.heap.size + 1) #[.int .i64 size, .int .i64 op, .int .i64 act, .slice a2 len c2] (by omega)).trans hr5
      have hv6 := setRow_heap w5 (w.heap.size + 1 + 1) _ #[.int .i64 size, .int .i64 op, .int .i64 act, .slice a2 len c2] _ _ hv5
      have hz6 := hz2.on (Agree.row (plus_not hF (by omega) (by have := lt_of_block hv4; omega) : ¬ Plus F w4.heap.size (w.heap.size + 1 + 1)) #[.int .i64 size, .int .i64 op, .int .i64 act, .slice a2 len c2])
      refine Plan.store (by rfl) 24 _ _ rfl (w.heap.size + 1 + 1) #[.int .i64 size, .int .i64 op, .int .i64 act, .slice a2 len c2] (by rfl) (by rfl) 24 _ hv5 dev_info rfl (by simp [Value.oneCell']) ⟨(row4 hx6).2, HY.out.on b6 hxb⟩ ?_
      simp only [Act.put]
      refine Plan.ends ?_
      generalize w5.setRow (w.heap.size + 1 + 1) #[.int .i64 size, .int .i64 op, .int .i64 act, .slice a2 len c2] = w6 at b6 hx6 hr6 hv6 hz6 ⊢
      have hcc : Calls Try.prog 33 #[.agg #[.int .i64 size, .int .i64 op, .int .i64 act, .slice a2 len c2]] w6 fun e w' => e = .returned (.tuple #[.int .i64 (CO2 : Int), .int .i64 (CA2 : Int)]) ∧ Below w6.heap.size w6 w' := HC2.out w6 a2 c2 hz6.is
      have HCC := Lib.hid hcc
      obtain ⟨y6, d0, d1, d2, d3⟩ := row4 hx6
      obtain ⟨v6, l0, l1, l2, l3⟩ := row4 hv6
      clear hcc d3 hb4 hb5 hz2 hx5 hr5 hv5 hx4 hv4
      have d3 := (row4 hx6).2.2.2.2
      have hsplit : (AB = false ∧ act ≤ CA2) ∨ AB = true ∨ (AB = false ∧ ¬ act ≤ CA2) := by
        cases AB
        · by_cases h : act ≤ CA2
          · exact .inl ⟨rfl, h⟩
          · exact .inr (.inr ⟨rfl, h⟩)
        · exact .inr (.inl rfl)
      have e1 := HDD.out
      have e2 := HEE.out
      rcases hsplit with ⟨rfl, h9⟩ | rfl | ⟨rfl, h9⟩
      · rw [if_pos ⟨rfl, h9⟩] at e1 e2
        subst e1 e2
        go_wp2_with (first
          | (go_at_call 33; ((with_reducible refine HCC.out.mono ?_); rintro e w7 ⟨rfl, hb7⟩; have hx7 := row_on hb7 hx6 (lt_of_block hx6); have hr7 := row_on hb7 hr6 (lt_of_block hr6); have hv7 := row_on hb7 hv6 (lt_of_block hv6); obtain ⟨y7, d0, d1, d2, d3⟩ := row4 hx7; obtain ⟨v7, l0, l1, l2, l3⟩ := row4 hv7; have b7 := b6.trans (hb7.mono b6.size); obtain ⟨zc0, zc1, zc2⟩ := HZ.out.on b7 hxb))
          | (go_at_call 45; ((with_reducible refine (HT.out _).mono ?_); rintro e w8 ⟨rfl, rfl⟩))
          | ((with_reducible refine Plan.store_lit 24 (.tmp 4) _ (w.heap.size + 1) ?_ hr7 ?_ ?_ ?_ ?_ ?_ ?_); rotate_left; (· rfl); (· rfl); (· exact dev_info); (· rfl); (· simp [Value.oneCell']); simp only [Act.put]))
        have b8 := below_setRow b7 (show w.heap.size ≤ w.heap.size + 1 by omega) #[.int .i64 size, .int .i64 op, .int .i64 act, .slice (some x) len cap]
        refine bodyPost_ret (Plan.results_cell_tmp (p := 4) (q := 5) rfl _ _ _ _ _ _ _ rfl (setRow_heap _ _ _ _ _ _ hr7) Try.underlying24 rfl dev_info) rfl ⟨some x, cap, rfl, (hz.on (Agree.below b8)).mono (fun b _ hb => .inl hb), b8⟩
      · rw [if_neg (by simp)] at e1 e2
        subst e1 e2
        go_wp2_with (first
          | (go_at_call 33; ((with_reducible refine HCC.out.mono ?_); rintro e w7 ⟨rfl, hb7⟩; have hx7 := row_on hb7 hx6 (lt_of_block hx6); have hr7 := row_on hb7 hr6 (lt_of_block hr6); have hv7 := row_on hb7 hv6 (lt_of_block hv6); obtain ⟨y7, d0, d1, d2, d3⟩ := row4 hx7; obtain ⟨v7, l0, l1, l2, l3⟩ := row4 hv7; have b7 := b6.trans (hb7.mono b6.size); obtain ⟨zc0, zc1, zc2⟩ := HZ.out.on b7 hxb))
          | (go_at_call 45; ((with_reducible refine (HT.out _).mono ?_); rintro e w8 ⟨rfl, rfl⟩))
          | ((with_reducible refine Plan.store_lit 24 (.tmp 4) _ (w.heap.size + 1) ?_ hr7 ?_ ?_ ?_ ?_ ?_ ?_); rotate_left; (· rfl); (· rfl); (· exact dev_info); (· rfl); (· simp [Value.oneCell']); simp only [Act.put]))
        have b8 := below_setRow b7 (show w.heap.size ≤ w.heap.size + 1 by omega) #[.int .i64 size, .int .i64 op, .int .i64 act, .slice a2 len c2]
        have hz8 := (hz6.on (Agree.below hb7)).on (Agree.row (plus_not hF (by omega) (by have := lt_of_block hr4; omega) : ¬ Plus F w4.heap.size (w.heap.size + 1)) #[.int .i64 size, .int .i64 op, .int .i64 act, .slice a2 len c2])
        refine bodyPost_ret (Plan.results_cell_tmp (p := 4) (q := 5) rfl _ _ _ _ _ _ _ rfl (setRow_heap _ _ _ _ _ _ hr7) Try.underlying24 rfl dev_info) rfl ⟨a2, c2, rfl, hz8.mono (fun b _ hb => hb.imp id (fun h => Nat.le_trans b4.size h)), b8⟩
      · rw [if_neg (fun h => h9 h.2)] at e1 e2
        subst e1 e2
        go_wp2_with (first
          | (go_at_call 33; ((with_reducible refine HCC.out.mono ?_); rintro e w7 ⟨rfl, hb7⟩; have hx7 := row_on hb7 hx6 (lt_of_block hx6); have hr7 := row_on hb7 hr6 (lt_of_block hr6); have hv7 := row_on hb7 hv6 (lt_of_block hv6); obtain ⟨y7, d0, d1, d2, d3⟩ := row4 hx7; obtain ⟨v7, l0, l1, l2, l3⟩ := row4 hv7; have b7 := b6.trans (hb7.mono b6.size); obtain ⟨zc0, zc1, zc2⟩ := HZ.out.on b7 hxb))
          | (go_at_call 45; ((with_reducible refine (HT.out _).mono ?_); rintro e w8 ⟨rfl, rfl⟩))
          | ((with_reducible refine Plan.store_lit 24 (.tmp 4) _ (w.heap.size + 1) ?_ hr7 ?_ ?_ ?_ ?_ ?_ ?_); rotate_left; (· rfl); (· rfl); (· exact dev_info); (· rfl); (· simp [Value.oneCell']); simp only [Act.put]))
        have b8 := below_setRow b7 (show w.heap.size ≤ w.heap.size + 1 by omega) #[.int .i64 size, .int .i64 op, .int .i64 act, .slice a2 len c2]
        have hz8 := (hz6.on (Agree.below hb7)).on (Agree.row (plus_not hF (by omega) (by have := lt_of_block hr4; omega) : ¬ Plus F w4.heap.size (w.heap.size + 1)) #[.int .i64 size, .int .i64 op, .int .i64 act, .slice a2 len c2])
        refine bodyPost_ret (Plan.results_cell_tmp (p := 4) (q := 5) rfl _ _ _ _ _ _ _ rfl (setRow_heap _ _ _ _ _ _ hr7) Try.underlying24 rfl dev_info) rfl ⟨a2, c2, rfl, hz8.mono (fun b _ hb => hb.imp id (fun h => Nat.le_trans b4.size h)), b8⟩
theorem refRoom_any (F : Nat → Prop) (D : Dev) (a : Option Addr) (len cap i : Nat) (w : World) (hF : ∀ b, F b → b < w.heap.size) (hz : ZonesIn w F a len cap D.zones) (hm : len ≤ 1000000) (hi : i < len) :
    Calls Try.prog 48 #[devV D a len cap, .int .i64 (i : Int)] w (DevPost w F len (roomR D i) (roomE D i)) := by
  by_cases hO : D.maxOpen ≤ countO D.zones
  · by_cases hf : firstOpen D.zones = D.zones.length
    · have hE : roomE D i = 8 := by unfold roomE; rw [if_pos ⟨hO, hf⟩]
      have hR : roomR D i = D := by unfold roomR; rw [hE]; rfl
      rw [hE, hR]
      exact refRoom_none F D a len cap i w hz hO hf
    · have hcl : cleared D = withZ D (firstOpen D.zones) (shut (D.zones.getD (firstOpen D.zones) empty)) := by unfold cleared; rw [if_pos hO]
      have hE : roomE D i = if activeB (D.zones.getD i empty).state = false ∧ D.maxActive ≤ countA (withZ D (firstOpen D.zones) (shut (D.zones.getD (firstOpen D.zones) empty))).zones then 9 else 0 := by
        unfold roomE
        rw [if_neg (fun h => hf h.2), hcl]
      have hR : roomR D i = if activeB (D.zones.getD i empty).state = false ∧ D.maxActive ≤ countA (withZ D (firstOpen D.zones) (shut (D.zones.getD (firstOpen D.zones) empty))).zones then D else withZ D (firstOpen D.zones) (shut (D.zones.getD (firstOpen D.zones) empty)) := by
        unfold roomR
        rw [hE, hcl]
        by_cases h : activeB (D.zones.getD i empty).state = false ∧ D.maxActive ≤ countA (withZ D (firstOpen D.zones) (shut (D.zones.getD (firstOpen D.zones) empty))).zones
        · rw [if_pos h, if_pos h, if_neg (by decide)]
        · rw [if_neg h, if_neg h, if_pos rfl]
      rw [hE, hR]
      have := first_le D.zones
      exact refRoom_clear F D a len cap i w hF hz hm hi hO (by omega)
  · have hcl : cleared D = D := by unfold cleared; rw [if_neg hO]
    have hE : roomE D i = if activeB (D.zones.getD i empty).state = false ∧ D.maxActive ≤ countA D.zones then 9 else 0 := by
      unfold roomE
      rw [if_neg (fun h => hO h.1), hcl]
    have hR : roomR D i = D := by
      unfold roomR
      rw [hcl]
      split <;> rfl
    rw [hE, hR]
    exact refRoom_free F D a len cap i w hz hi hO
end Go.Proofs.Ytlplomofgbmgaaa

/- The walk of the document's own Open. -/
namespace Go.Proofs.Ytlplomofgbmgaaa
open Go.RowKit Plan ZnsMath

theorem refOpen_err (F : Nat → Prop) (D : Dev) (a : Option Addr) (len cap : Nat) (k : Int) (w : World) (hz : ZonesIn w F a len cap D.zones) (hE : beginE D k ≠ 0) :
    Calls Try.prog 37 #[devV D a len cap, .int .i64 k] w (DevPost w F len D (beginE D k)) := by
  have hbg := fun W (h : Below w.heap.size w W) => refBegin_any D a len cap k W (hz.on (Agree.below h)).is
  have hB2 : Below w.heap.size w ((w.alloc (devRow D.size D.maxOpen D.maxActive a len cap)).alloc (devRow 0 0 0 none 0 0)) := ((Below.refl _ _).alloc (Nat.le_refl _) _).alloc (by simp) _
  unfold DevPost
  generalize beginE D k = E at *
  have hE1 : (E != 0) = true := by simp [hE]
  have HB := Lib.hid hbg
  have HA := Lib.hid hB2
  clear hbg hB2 hE
  obtain ⟨size, op, act, Z⟩ := D
  go_enter Try.func37, Try.ntmps37
  go_wp2_with (first
    | (go_at_call 46; ((with_reducible refine (HB.out _ HA.out).mono ?_); rintro e w1 ⟨rfl, hb1⟩; have hx1 := row_on hb1 (heap_first w _ _) (by simp; omega); have hr1 := row_on hb1 (heap_second w _ _) (by simp); obtain ⟨y1, d0, d1, d2, d3⟩ := row4 hx1; have b1 := HA.out.trans (hb1.mono (by simp; omega))))
    | ((with_reducible refine Plan.store_lit 24 (.tmp 4) _ (w.heap.size + 1) ?_ hr1 ?_ ?_ ?_ ?_ ?_ ?_); rotate_left; (· rfl); (· rfl); (· exact dev_info); (· rfl); (· simp [Value.oneCell']); simp only [Act.put]))
  have b2 := below_setRow b1 (show w.heap.size ≤ w.heap.size + 1 by omega) #[.int .i64 size, .int .i64 op, .int .i64 act, .slice a len cap]
  refine bodyPost_ret (Plan.results_cell_tmp (p := 4) (q := 5) rfl _ _ _ _ _ _ _ rfl (setRow_heap _ _ _ _ _ _ hr1) Try.underlying24 rfl dev_info) rfl ⟨a, cap, rfl, (hz.on (Agree.below b2)).mono (fun b _ hb => .inl hb), b2⟩
set_option maxHeartbeats 1000000 in
set_option maxRecDepth 20000 in
theorem refOpen_full (F : Nat → Prop) (D : Dev) (a : Option Addr) (len cap i : Nat) (w : World) (hz : ZonesIn w F a len cap D.zones) (hi : i < len) (hE : beginE D (i : Int) = 0) (h : stateAt D (i : Int) = 4) :
    Calls Try.prog 37 #[devV D a len cap, .int .i64 (i : Int)] w (DevPost w F len D 7) := by
  have hbg := fun W (h : Below w.heap.size w W) => refBegin_any D a len cap i W (hz.on (Agree.below h)).is
  have hB2 : Below w.heap.size w ((w.alloc (devRow D.size D.maxOpen D.maxActive a len cap)).alloc (devRow 0 0 0 none 0 0)) := ((Below.refl _ _).alloc (Nat.le_refl _) _).alloc (by simp) _
  have hiI : (i : Int) < (len : Int) := by omega
  obtain ⟨x, z, sa, sl, sc, rfl, hzk, hza, hzs⟩ := hz.zone i hi
  have hxb := zone_block hza
  rw [stateAt_of hzk] at h
  rw [hE] at hbg
  unfold DevPost
  have HB := Lib.hid hbg
  have HA := Lib.hid hB2
  have HZ := Lib.hid hza
  have e4 : (z.state == 4) = true := by simp [h]
  clear hbg hB2 hE hza hzs h
  obtain ⟨size, op, act, Z⟩ := D
  go_enter Try.func37, Try.ntmps37
  go_wp2_with (first
      | (go_at_call 46; ((with_reducible refine (HB.out _ HA.out).mono ?_); rintro e w1 ⟨rfl, hb1⟩; have hx1 := row_al (row_on hb1 (heap_first w _ _) (by simp only [World.size_alloc]; omega)) (devRow size op act (some x) len cap); have hr1 := row_al (row_on hb1 (heap_second w _ _) (by simp only [World.size_alloc]; omega)) (devRow size op act (some x) len cap); have hv1 := heap_alloc_new w1 (devRow size op act (some x) len cap); obtain ⟨y1, d0, d1, d2, d3⟩ := row4 (row_on hb1 (heap_first w _ _) (by simp only [World.size_alloc]; omega)); obtain ⟨v1, l0, l1, l2, l3⟩ := row4 hv1; have b0 := HA.out.trans (hb1.mono (by simp only [World.size_alloc]; omega)); have b1 := b0.alloc b0.size (devRow size op act (some x) len cap); obtain ⟨zc0, zc1, zc2⟩ := HZ.out.on b1 hxb))
      | ((with_reducible refine Plan.store_lit 24 (.tmp 4) _ (w.heap.size + 1) ?_ hr1 ?_ ?_ ?_ ?_ ?_ ?_); rotate_left; (· rfl); (· rfl); (· exact dev_info); (· rfl); (· simp [Value.oneCell']); simp only [Act.put]))
  have b2 := below_setRow b1 (show w.heap.size ≤ w.heap.size + 1 by omega) #[.int .i64 size, .int .i64 op, .int .i64 act, .slice (some x) len cap]
  refine bodyPost_ret (Plan.results_cell_tmp (p := 4) (q := 5) rfl _ _ _ _ _ _ _ rfl (setRow_heap _ _ _ _ _ _ hr1) Try.underlying24 rfl dev_info) rfl ⟨some x, cap, rfl, (hz.on (Agree.below b2)).mono (fun b _ hb => .inl hb), b2⟩
set_option maxHeartbeats 1000000 in
set_option maxRecDepth 20000 in
theorem refOpen_held (F : Nat → Prop) (D : Dev) (a : Option Addr) (len cap i : Nat) (w : World) (hF : ∀ b, F b → b < w.heap.size) (hz : ZonesIn w F a len cap D.zones) (hm : len ≤ 1000000) (hi : i < len) (hE : beginE D (i : Int) = 0) (h : stateAt D (i : Int) = 1 ∨ stateAt D (i : Int) = 2) :
    Calls Try.prog 37 #[devV D a len cap, .int .i64 (i : Int)] w (DevPost w F len (withZ D i (held (D.zones.getD i empty))) 0) := by
  have hbg := fun W (h : Below w.heap.size w W) => refBegin_any D a len cap i W (hz.on (Agree.below h)).is
  have hB2 : Below w.heap.size w ((w.alloc (devRow D.size D.maxOpen D.maxActive a len cap)).alloc (devRow 0 0 0 none 0 0)) := ((Below.refl _ _).alloc (Nat.le_refl _) _).alloc (by simp) _
  have hiI : (i : Int) < (len : Int) := by omega
  obtain ⟨x, z, sa, sl, sc, rfl, hzk, hza, hzs⟩ := hz.zone i hi
  have hxb := zone_block hza
  rw [stateAt_of hzk] at h
  rw [hE] at hbg
  rw [getD_of hzk]
  have hwt := fun W (h : Below w.heap.size w W) => with_agg F D (some x) len cap i 2 z.durable z.sectors sa sl sc W (hz.on (Agree.below h)) hi hm (hzs.on (Agree.below h))
  unfold DevPost
  have HB := Lib.hid hbg
  have HA := Lib.hid hB2
  have HZ := Lib.hid hza
  have HW := Lib.hid hwt
  have e4 : (z.state == 4) = false := by rcases h with h | h <;> simp [h]
  have e12 : ((z.state == 1) = true) ∨ ((z.state == 1) = false ∧ (z.state == 2) = true) := by rcases h with h | h <;> simp [h]
  clear hbg hB2 hE hza hzs h hwt
  obtain ⟨size, op, act, Z⟩ := D
  rcases e12 with e1 | ⟨e1, e2⟩
  all_goals
    go_enter Try.func37, Try.ntmps37
    go_wp2_with (first
      | (go_at_call 46; ((with_reducible refine (HB.out _ HA.out).mono ?_); rintro e w1 ⟨rfl, hb1⟩; have hx1 := row_al (row_on hb1 (heap_first w _ _) (by simp only [World.size_alloc]; omega)) (devRow size op act (some x) len cap); have hr1 := row_al (row_on hb1 (heap_second w _ _) (by simp only [World.size_alloc]; omega)) (devRow size op act (some x) len cap); have hv1 := heap_alloc_new w1 (devRow size op act (some x) len cap); obtain ⟨y1, d0, d1, d2, d3⟩ := row4 (row_on hb1 (heap_first w _ _) (by simp only [World.size_alloc]; omega)); obtain ⟨v1, l0, l1, l2, l3⟩ := row4 hv1; have b0 := HA.out.trans (hb1.mono (by simp only [World.size_alloc]; omega)); have b1 := b0.alloc b0.size (devRow size op act (some x) len cap); obtain ⟨zc0, zc1, zc2⟩ := HZ.out.on b1 hxb))
      | (go_at_call 47; ((with_reducible refine (HW.out _ (b1.alloc b1.size (zoneRow 2 z.durable sa sl sc))).mono ?_); rintro e w2 ⟨a2, c2, rfl, hz2, hb2⟩; have hr2 := row_on hb2 (row_al hr1 (zoneRow 2 z.durable sa sl sc)) (lt_of_block (row_al hr1 (zoneRow 2 z.durable sa sl sc)))))
      | ((with_reducible refine Plan.store_lit 24 (.tmp 4) _ (w.heap.size + 1) ?_ hr2 ?_ ?_ ?_ ?_ ?_ ?_); rotate_left; (· rfl); (· rfl); (· exact dev_info); (· rfl); (· simp [Value.oneCell']); simp only [Act.put]))
    have b1' := b1.alloc b1.size (zoneRow 2 z.durable sa sl sc)
    have hz3 := hz2.on (Agree.row (plus_not hF (by omega) (by have := lt_of_block (row_al hr1 (zoneRow 2 z.durable sa sl sc)); omega) : ¬ Plus F _ (w.heap.size + 1)) #[.int .i64 size, .int .i64 op, .int .i64 act, .slice a2 len c2])
    refine bodyPost_ret (Plan.results_cell_tmp (p := 4) (q := 5) rfl _ _ _ _ _ _ _ rfl (setRow_heap _ _ _ _ _ _ hr2) Try.underlying24 rfl dev_info) rfl ⟨a2, c2, rfl, hz3.mono (fun b _ hb => hb.imp id (fun h => Nat.le_trans b1'.size h)), below_setRow (b1'.trans (hb2.mono b1'.size)) (by omega) _⟩
end Go.Proofs.Ytlplomofgbmgaaa
