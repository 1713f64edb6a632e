
/- The walk of the document's Relocate. -/
import Derived.Test.YtbaclgedohpibaaEntInst
namespace Go.Proofs.Ytbaclgedohpibaa.Ents
open Go.RowKit Plan EntMath
/-- what a function that gives a list and a yes or no leaves -/
def RelPost (w : World) (F : Nat → Prop) (L : List Ent) (B : Bool) (r : Ending) (w' : World) : Prop :=
  ∃ a len cap, r = .returned (.tuple #[.slice a len cap, .bool B]) ∧ EList w' (Plus F w.heap.size) a len cap L ∧ Below w.heap.size w w'
theorem rel_a {L : List Ent} {b v fz fo tz to m : Int} (h : validB L = false) : relocL L b v fz fo tz to m = [] ∧ moves L b v fz fo tz to m = false := by
  unfold relocL moves
  rw [find_invalid h]
  simp [h]
theorem rel_no {L : List Ent} {b v fz fo tz to m : Int} (h : validB L = true) (hm : moves L b v fz fo tz to m = false) : relocL L b v fz fo tz to m = L := by
  unfold relocL
  rw [if_pos h, if_neg (by rw [hm]; decide)]
theorem rel_none {L : List Ent} {b v fz fo tz to m : Int} (h : findE L b = none) : moves L b v fz fo tz to m = false := by
  unfold moves
  rw [h]
theorem rel_some {L : List Ent} {b v fz fo tz to m : Int} {y : Ent} (h : findE L b = some y) : moves L b v fz fo tz to m = true ↔ y.version = v ∧ y.zone = fz ∧ y.offset = fo ∧ 0 ≤ tz ∧ 0 ≤ to ∧ 0 ≤ m ∧ m ≤ 255 := by
  unfold moves
  rw [h]
  simp [Bool.and_eq_true, and_assoc]
theorem rel_yes {L : List Ent} {b v fz fo tz to m : Int} {y : Ent} (h : validB L = true) (hy : lookE L b = some y) (hm : moves L b v fz fo tz to m = true) : relocL L b v fz fo tz to m = L.set (place L b) (moved y tz to m) := by
  have hb := look_block hy
  unfold relocL
  rw [if_pos h, if_pos hm, hy]
  have := ins_set (L := L) (moved y tz to m) y (by show lookE L y.block = some y; rw [hb]; exact hy) (valid_iff.1 h).2
  show ins L (moved y tz to m) = _
  rw [← this]
  show L.set (place L y.block) _ = _
  rw [hb]
theorem e_owns_on {w w' : World} {B sz n : Nat} {t : TypeId} {v : Value} {xs : List Value} (h : w.ownsRow B t sz v n xs) (hb : Below w.heap.size w w') : w'.ownsRow B t sz v n xs := by
  refine h.kept (row := none) ⟨hb.os, hb.tape, hb.output, hb.size, fun i hi _ => hb.block i hi⟩ ?_
  cases v.ownBlock <;> simp
theorem e_owns_one {w : World} {B g n cap : Nat} {t : TypeId} {C : List Value} (h : w.ownsRow B t 6 (.slice (some ⟨g, 0, none⟩) n cap) n C) {j : Nat} (hj : j < C.length) : (∃ u, w.cell? ⟨g, j, none⟩ = some u) ∧ w.frozen? ⟨g, j, none⟩ = false := by
  constructor
  · have := h.cells (g := g) rfl j C[j] (List.getElem?_eq_getElem _)
    rw [Addr.add_lit, Nat.zero_add] at this
    exact ⟨_, this⟩
  · rcases h.2 with ⟨h, _⟩ | ⟨g', cap', cur, hv, hb, hg, _⟩
    · cases h
    · cases hv
      simp [World.frozen?, hg]
theorem e_owns_at {w : World} {B g n cap k : Nat} {L : List Ent} (h : w.ownsRow B 26 6 (.slice (some ⟨g, 0, none⟩) n cap) n (ents L)) (hl : L.length = n) (hk : k < n) :
    ((∃ u, w.cell? ⟨g, k * 6 + 3, none⟩ = some u) ∧ w.frozen? ⟨g, k * 6 + 3, none⟩ = false) ∧ ((∃ u, w.cell? ⟨g, k * 6 + 4, none⟩ = some u) ∧ w.frozen? ⟨g, k * 6 + 4, none⟩ = false) ∧ ((∃ u, w.cell? ⟨g, k * 6 + 5, none⟩ = some u) ∧ w.frozen? ⟨g, k * 6 + 5, none⟩ = false) := by
  have hC : (ents L).length = n * 6 := by rw [ents_length, hl]
  exact ⟨e_owns_one h (by omega), e_owns_one h (by omega), e_owns_one h (by omega)⟩
theorem e_owns_cell {w : World} {B sz g n cap : Nat} {t : TypeId} {C : List Value} (h : w.ownsRow B t sz (.slice (some ⟨g, 0, none⟩) n cap) n C) (j : Nat) (u : Value) :
    (w.setCell ⟨g, j, none⟩ u).ownsRow B t sz (.slice (some ⟨g, 0, none⟩) n cap) n (C.set j u) := by
  obtain ⟨h1, h2⟩ := h
  rcases h2 with ⟨h, _⟩ | ⟨g', cap', cur, hv, hb, hg, k1, k2, k3, k4⟩
  · cases h
  · cases hv
    refine ⟨by rw [List.length_set]; exact h1, .inr ⟨g, cap, cur.setIfInBounds j u, rfl, hb, ?_, k1, k2, by simpa using k3, ?_⟩⟩
    · rw [setCell_eq_setRow w g j cur t (0, 0) u hg]
      exact setRow_heap w g cur _ t (0, 0) hg
    · rw [Array.toList_setIfInBounds, List.take_set, k4]
theorem ents_moved {L : List Ent} {k : Nat} {y : Ent} (h : L[k]? = some y) (tz to m : Int) : ents (L.set k (moved y tz to m)) = (((ents L).set (k * 6 + 4) (.int .i64 tz)).set (k * 6 + 5) (.int .i64 to)).set (k * 6 + 3) (.int .i64 m) := by
  induction L generalizing k with
  | nil => cases h
  | cons x L ih =>
    cases k with
    | zero =>
      obtain rfl := Option.some.inj h
      simp [ents_cons, entC, moved]
    | succ k =>
      have hs : ∀ (M : List Value) j u, (entC x ++ M).set (j + 6) u = entC x ++ M.set j u := fun M j u => by simp [entC]
      rw [List.set_cons_succ, ents_cons, ents_cons, ih h]
      rw [show (k + 1) * 6 + 4 = (k * 6 + 4) + 6 by omega, hs, show (k + 1) * 6 + 5 = (k * 6 + 5) + 6 by omega, hs, show (k + 1) * 6 + 3 = (k * 6 + 3) + 6 by omega, hs]
theorem place_row {w : World} {g : Nat} {a b : Value} {t : TypeId} {fr : Nat × Nat} (h : w.heap[g]? = some (.cells #[a, b] t fr)) : w.cell? ⟨g, 0, none⟩ = some a ∧ w.cell? ⟨g, 1, none⟩ = some b := ⟨cell_of_row _ _ 0 _ _ _ h, cell_of_row _ _ 1 _ _ _ h⟩
set_option maxHeartbeats 4000000 in
set_option maxRecDepth 20000 in
theorem refRelocate_any (F : Nat → Prop) (L : List Ent) (b v fz fo tz to m : Int) (a : Option Addr) (len cap : Nat) (w : World) (hl : EList w F a len cap L) (hm : len ≤ 900000) :
    Calls Try.prog 16 #[.slice a len cap, .int .i64 b, .int .i64 v, .agg #[.int .i64 fz, .int .i64 fo], .agg #[.int .i64 tz, .int .i64 to], .int .i64 m] w (RelPost w F (relocL L b v fz fo tz to m) (moves L b v fz fo tz to m)) := by
  have hlen := hl.length
  have hA := ((Below.refl w.heap.size w).alloc (Nat.le_refl _) (placeRow fz fo)).alloc (by simp) (placeRow tz to)
  have hr0 := heap_second w (placeRow fz fo) (placeRow tz to)
  have hx0 := heap_first w (placeRow fz fo) (placeRow tz to)
  have hlow := fun W (h : Below w.heap.size w W) => hl.low.on (Same.low h)
  have hv := fun W h => refValid_any _ L a len cap W (hlow W h)
  have hp := fun W h => refPlace_any _ L b a len cap W (hlow W h)
  have hfi := fun W h => refFind_any _ L b a len cap W (hlow W h)
  have hend := fun W (h : Below w.heap.size w W) => (show EList W (Plus F w.heap.size) a len cap L from (hl.cut.on (Same.below (w' := W) h)).mono (fun b _ h => .inl h.1))
  have HV := Lib.hid hv
  have HP := Lib.hid hp
  have HEND := Lib.hid hend
  have HLOW := Lib.hid hlow
  have HL := Lib.hid hl
  clear hv hp hlow hend hl
  cases hva : validB L
  · obtain ⟨r1, r2⟩ := rel_a (b := b) (v := v) (fz := fz) (fo := fo) (tz := tz) (to := to) (m := m) hva
    rw [r1, r2]
    rw [hva] at HV
    clear r1 r2 hva hfi
    go_enter Try.func16, Try.ntmps16
    generalize hw0 : (w.alloc (placeRow fz fo)).alloc (placeRow tz to) = w0 at *
    go_wp2_with (first
      | (go_at_call 25; ((with_reducible refine (HV.out _ hA).mono ?_); rintro e9 w1 ⟨rfl, hb1⟩; have hr1 := e_on hb1 hr0 (e_lt hr0); have hx1 := e_on hb1 hx0 (e_lt hx0); have b1 := hA.trans (hb1.mono hA.size))))
    go_ret2
    exact ⟨_, _, _, rfl, EList.nil _ _, b1⟩
  · rw [hva] at HV
    cases hfe : findE L b with
    | none =>
      have hm0 := rel_none (v := v) (fz := fz) (fo := fo) (tz := tz) (to := to) (m := m) hfe
      rw [rel_no hva hm0, hm0]
      have hf2 : ∀ W (h : Below w.heap.size w W), Calls Try.prog 14 #[.slice a len cap, .int .i64 b] W fun r w' => r = .returned (.tuple #[.agg #[.int .i64 0, .int .i64 0, .int .i64 0, .int .i64 0, .int .i64 0, .int .i64 0], .bool false]) ∧ Below W.heap.size W w' := fun W h => by
        have := hfi W h
        rwa [findV_none hfe] at this
      have HF2 := Lib.hid hf2
      clear hf2 hfi hfe hva hm0
      go_enter Try.func16, Try.ntmps16
      generalize hw0 : (w.alloc (placeRow fz fo)).alloc (placeRow tz to) = w0 at *
      go_wp2_with (first
        | (go_at_call 25; ((with_reducible refine (HV.out _ hA).mono ?_); rintro e9 w1 ⟨rfl, hb1⟩; have hr1 := e_on hb1 hr0 (e_lt hr0); have hx1 := e_on hb1 hx0 (e_lt hx0); have b1 := hA.trans (hb1.mono hA.size)))
        | (go_at_call 14; ((with_reducible refine (HF2.out _ b1).mono ?_); rintro e9 w2 ⟨rfl, hb2⟩; have b2 := (b1.trans (hb2.mono b1.size)).alloc (b1.trans (hb2.mono b1.size)).size (entRow 0 0 0 0 0 0))))
      go_ret2
      exact ⟨_, _, _, rfl, HEND.out _ b2, b2⟩
    | some y =>
      have hlk : lookE L b = some y := by unfold findE at hfe; rwa [if_pos hva] at hfe
      have hf2 : ∀ W (h : Below w.heap.size w W), Calls Try.prog 14 #[.slice a len cap, .int .i64 b] W fun r w' => r = .returned (.tuple #[entV y, .bool true]) ∧ Below W.heap.size W w' := fun W h => by
        have := hfi W h
        rwa [findV_some hfe] at this
      have HF2 := Lib.hid hf2
      have hmv := @rel_some L b v fz fo tz to m y hfe
      have hn := fun h => @rel_no L b v fz fo tz to m hva h
      have hyy := fun h => @rel_yes L b v fz fo tz to m y hva hlk h
      have hklt : place L b < len := by
        have h1 := look_place (valid_iff.1 hva).2 b
        rw [hlk] at h1
        rcases Nat.lt_or_ge (place L b) len with h2 | h2
        · exact h2
        · rw [List.getElem?_eq_none (by omega)] at h1; cases h1
      have hat : L[place L b]? = some y := by
        have h1 := look_place (valid_iff.1 hva).2 b
        rw [hlk, List.getElem?_eq_getElem (by omega)] at h1
        simp only at h1
        split at h1
        · rw [List.getElem?_eq_getElem (by omega), h1]
        · cases h1
      generalize relocL L b v fz fo tz to m = RL at *
      generalize moves L b v fz fo tz to m = M at *
      generalize place L b = k at *
      have HMV := Lib.hid hmv
      have HN := Lib.hid hn
      have HYY := Lib.hid hyy
      have HAT := Lib.hid hat
      clear hmv hn hyy hf2 hfi hfe hva hlk hat
      obtain ⟨yb, yk, yv, ym, yz, yo⟩ := y
      try simp only at HF2 HMV HYY
      have HNO : RowKit.Hid (¬ (yv = v ∧ yz = fz ∧ yo = fo ∧ 0 ≤ tz ∧ 0 ≤ to ∧ 0 ≤ m ∧ m ≤ 255) → M = false) := Lib.hid (fun h => by
        cases M
        · rfl
        · exact absurd (HMV.out.1 rfl) h)
      by_cases h1 : yv = v
      · subst h1
        by_cases h2 : yz = fz
        · subst h2
          by_cases h3 : yo = fo
          · subst h3
            obtain ⟨i1, hi1, hy0, hy1, hy2⟩ := info_parts e_info
            have HNO2 : RowKit.Hid (¬ (0 ≤ tz ∧ 0 ≤ to ∧ 0 ≤ m ∧ m ≤ 255) → M = false) := Lib.hid (fun h => HNO.out (fun h2 => h h2.2.2.2))
            have HYES : RowKit.Hid (0 ≤ tz ∧ 0 ≤ to ∧ 0 ≤ m ∧ m ≤ 255 → M = true) := Lib.hid (fun h => HMV.out.2 ⟨by trivial, by trivial, by trivial, h⟩)
            clear HNO HMV
            rcases a with _ | x
            · obtain ⟨rfl, -⟩ := HL.out.none; exact absurd hklt (Nat.not_lt_zero _)
            go_enter Try.func16, Try.ntmps16
            generalize hw0 : (w.alloc (placeRow yz yo)).alloc (placeRow tz to) = w0 at *
            go_wp2_with (first
              | (go_at_call 25; ((with_reducible refine (HV.out _ hA).mono ?_); rintro e9 w1 ⟨rfl, hb1⟩; have hr1 := e_on hb1 hr0 (e_lt hr0); have hx1 := e_on hb1 hx0 (e_lt hx0); have b1 := hA.trans (hb1.mono hA.size)))
              | (go_at_call 14; ((with_reducible refine (HF2.out _ b1).mono ?_); rintro e9 w2 ⟨rfl, hb2⟩; have n2 := e_lt (e_on hb2 hr1 (e_lt hr1)); have hr2 := e_al (e_on hb2 hr1 (e_lt hr1)) (entRow yb yk yv ym yz yo); have hx2 := e_al (e_on hb2 hx1 (e_lt hx1)) (entRow yb yk yv ym yz yo); have b2 := (b1.trans (hb2.mono b1.size)).alloc (b1.trans (hb2.mono b1.size)).size (entRow yb yk yv ym yz yo); obtain ⟨c0, c1⟩ := place_row hx2; obtain ⟨d0, d1⟩ := place_row hr2))
              | (at_builtin; refine wpList_append_lies _ rfl (.tmp 60) (.tmp 61) 22 rfl (w2.heap.size + 1) 26 i1 _ 6 48 Try.underlying22 hi1 hy0 hy1 hy2 rfl (by decide) _ 0 [] (by rfl) (ents_empty (w2.alloc (entRow yb yk yv ym yz yo)) (World.size_alloc _ _)) x len cap (ents L) rfl (by rw [ents_length, hlen]) (HLOW.out _ (b2.alloc b2.size (.cells #[] 26))).news (ents_flat L) (by omega) (by unfold maxLen; omega) (by omega) (by simp) _ rfl ?_; intro g5 k5 w5 hown5 hgrow5 hat5 hlt5; rw [Nat.zero_add, List.nil_append] at hown5; have hge5 := (hown5.lt g5 rfl).1; have hr5 := (hgrow5.block (w.heap.size + 1) (by have := e_lt hr2; simp only [World.size_alloc] at *; omega) (fun h9 => by have h8 := Option.some.inj (show some _ = some (w2.heap.size + 1) from h9); omega)).trans (e_al hr2 (.cells #[] 26)); have b5 := (b2.alloc b2.size (.cells #[] 26)).grown hgrow5 (b2.alloc b2.size (.cells #[] 26)).size (fun z9 h9 => by have h8 := Option.some.inj (show some (w2.heap.size + 1) = some z9 from h9); omega); clear d0 d1 c0 c1 hgrow5)
              | (go_at_call 26; ((with_reducible refine (HP.out _ b5).mono ?_); rintro e9 w6 ⟨rfl, hb6⟩; have hown6 := e_owns_on hown5 hb6; have b6 := b5.trans (hb6.mono b5.size); obtain ⟨d0, d1⟩ := place_row (e_on hb6 hr5 (e_lt hr5)); obtain ⟨⟨⟨u3, q3⟩, f3⟩, ⟨⟨u4, q4⟩, f4⟩, ⟨⟨u5, q5⟩, f5⟩⟩ := e_owns_at hown6 hlen hklt)))
            all_goals first
              | (go_ret2; exact ⟨_, _, _, by rw [HNO2.out (by omega)]; rfl, by rw [HN.out (HNO2.out (by omega))]; exact HEND.out _ b2, b2⟩)
              | skip
            go_ret2
            have O9 := e_owns_cell (e_owns_cell (e_owns_cell hown6 (k * 6 + 4) (.int .i64 tz)) (k * 6 + 5) (.int .i64 to)) (k * 6 + 3) (.int .i64 m)
            have hsl : w.heap.size ≤ g5 := by have := b2.size; simp only [World.size_alloc] at this; omega
            have b9 := ((b6.setCell (show w.heap.size ≤ (⟨g5, k * 6 + 4, none⟩ : Addr).block from hsl) (.int .i64 tz)).setCell (show w.heap.size ≤ (⟨g5, k * 6 + 5, none⟩ : Addr).block from hsl) (.int .i64 to)).setCell (show w.heap.size ≤ (⟨g5, k * 6 + 3, none⟩ : Addr).block from hsl) (.int .i64 m)
            rw [← ents_moved HAT.out tz to m] at O9
            obtain ⟨-, a9, c9, h9, hl9⟩ := owns_ents (F := Plus F w.heap.size) O9 (fun b hb => .inr (by have := (O9.lt b hb).1; have := b2.size; simp only [World.size_alloc] at this; omega))
            cases h9
            exact ⟨_, _, _, by rw [HYES.out (by omega)]; rfl, by rw [HYY.out (HYES.out (by omega))]; exact hl9, b9⟩
          · have t3 : (yo == fo) = false := by simpa using h3
            have t4 : decide (yo = fo) = false := by simpa using h3
            go_enter Try.func16, Try.ntmps16
            generalize hw0 : (w.alloc (placeRow yz fo)).alloc (placeRow tz to) = w0 at *
            go_wp2_with (first
              | (go_at_call 25; ((with_reducible refine (HV.out _ hA).mono ?_); rintro e9 w1 ⟨rfl, hb1⟩; have hr1 := e_on hb1 hr0 (e_lt hr0); have hx1 := e_on hb1 hx0 (e_lt hx0); have b1 := hA.trans (hb1.mono hA.size)))
              | (go_at_call 14; ((with_reducible refine (HF2.out _ b1).mono ?_); rintro e9 w2 ⟨rfl, hb2⟩; have n2 := e_lt (e_on hb2 hr1 (e_lt hr1)); have hr2 := e_al (e_on hb2 hr1 (e_lt hr1)) (entRow yb yk yv ym yz yo); have hx2 := e_al (e_on hb2 hx1 (e_lt hx1)) (entRow yb yk yv ym yz yo); have b2 := (b1.trans (hb2.mono b1.size)).alloc (b1.trans (hb2.mono b1.size)).size (entRow yb yk yv ym yz yo); obtain ⟨c0, c1⟩ := place_row hx2; obtain ⟨d0, d1⟩ := place_row hr2)))
            go_ret2
            exact ⟨_, _, _, by rw [HNO.out (by omega)]; rfl, by rw [HN.out (HNO.out (by omega))]; exact HEND.out _ b2, b2⟩
        · have t3 : (yz == fz) = false := by simpa using h2
          have t4 : decide (yz = fz) = false := by simpa using h2
          go_enter Try.func16, Try.ntmps16
          generalize hw0 : (w.alloc (placeRow fz fo)).alloc (placeRow tz to) = w0 at *
          go_wp2_with (first
            | (go_at_call 25; ((with_reducible refine (HV.out _ hA).mono ?_); rintro e9 w1 ⟨rfl, hb1⟩; have hr1 := e_on hb1 hr0 (e_lt hr0); have hx1 := e_on hb1 hx0 (e_lt hx0); have b1 := hA.trans (hb1.mono hA.size)))
            | (go_at_call 14; ((with_reducible refine (HF2.out _ b1).mono ?_); rintro e9 w2 ⟨rfl, hb2⟩; have n2 := e_lt (e_on hb2 hr1 (e_lt hr1)); have hr2 := e_al (e_on hb2 hr1 (e_lt hr1)) (entRow yb yk yv ym yz yo); have hx2 := e_al (e_on hb2 hx1 (e_lt hx1)) (entRow yb yk yv ym yz yo); have b2 := (b1.trans (hb2.mono b1.size)).alloc (b1.trans (hb2.mono b1.size)).size (entRow yb yk yv ym yz yo); obtain ⟨c0, c1⟩ := place_row hx2; obtain ⟨d0, d1⟩ := place_row hr2)))
          go_ret2
          exact ⟨_, _, _, by rw [HNO.out (by omega)]; rfl, by rw [HN.out (HNO.out (by omega))]; exact HEND.out _ b2, b2⟩
      · have t3 : (yv != v) = true := by simpa using h1
        go_enter Try.func16, Try.ntmps16
        generalize hw0 : (w.alloc (placeRow fz fo)).alloc (placeRow tz to) = w0 at *
        go_wp2_with (first
          | (go_at_call 25; ((with_reducible refine (HV.out _ hA).mono ?_); rintro e9 w1 ⟨rfl, hb1⟩; have hr1 := e_on hb1 hr0 (e_lt hr0); have hx1 := e_on hb1 hx0 (e_lt hx0); have b1 := hA.trans (hb1.mono hA.size)))
          | (go_at_call 14; ((with_reducible refine (HF2.out _ b1).mono ?_); rintro e9 w2 ⟨rfl, hb2⟩; have n2 := e_lt (e_on hb2 hr1 (e_lt hr1)); have hr2 := e_al (e_on hb2 hr1 (e_lt hr1)) (entRow yb yk yv ym yz yo); have hx2 := e_al (e_on hb2 hx1 (e_lt hx1)) (entRow yb yk yv ym yz yo); have b2 := (b1.trans (hb2.mono b1.size)).alloc (b1.trans (hb2.mono b1.size)).size (entRow yb yk yv ym yz yo); obtain ⟨c0, c1⟩ := place_row hx2; obtain ⟨d0, d1⟩ := place_row hr2)))
        go_ret2
        exact ⟨_, _, _, by rw [HNO.out (by omega)]; rfl, by rw [HN.out (HNO.out (by omega))]; exact HEND.out _ b2, b2⟩
end Go.Proofs.Ytbaclgedohpibaa.Ents
