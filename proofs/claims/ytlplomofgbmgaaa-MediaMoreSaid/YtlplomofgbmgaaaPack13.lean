/- Texts that belong together, part 13. -/
import Derived.Test.YtlplomofgbmgaaaPack12

/- Zoned devices as plain lists: commands lead from valid devices to valid ones. -/
namespace Go.Proofs.Ytlplomofgbmgaaa
open ZnsMath

theorem right_all {Z : List Zone} {size : Int} (h : rightsB Z size = true) {i : Nat} {z : Zone} (hz : Z[i]? = some z) : rightB z size = true := by
  unfold rightsB at h
  rw [List.all_eq_true] at h
  exact h z (List.mem_of_getElem? hz)
theorem right_set {Z : List Zone} {size : Int} (h : rightsB Z size = true) (i : Nat) {z : Zone} (hz : rightB z size = true) : rightsB (Z.set i z) size = true := by
  unfold rightsB at h ⊢
  rw [List.all_eq_true] at h ⊢
  intro y hy
  rcases List.mem_or_eq_of_mem_set hy with h1 | h1
  · exact h y h1
  · rw [h1]; exact hz
theorem right_iff (z : Zone) (size : Int) : rightB z size = true ↔ (0 ≤ z.state ∧ z.state ≤ 5 ∧ (z.sectors.length : Int) ≤ size ∧ 0 ≤ z.durable ∧ z.durable ≤ z.sectors.length) ∧ sizesB z.sectors = true ∧
    (if z.state = 0 ∨ z.state = 5 then z.sectors.length = 0 else if z.state = 4 then z.durable = z.sectors.length else (z.sectors.length : Int) < size) := by
  unfold rightB
  rw [Bool.and_eq_true, Bool.and_eq_true, decide_eq_true_eq]
  constructor
  · rintro ⟨⟨h1, h2⟩, h3⟩
    refine ⟨by omega, h2, ?_⟩
    split at h3
    · rename_i h; rw [if_pos h]; simpa using h3
    · rename_i h
      rw [if_neg h]
      split at h3
      · rename_i h4; rw [if_pos h4]; simpa using h3
      · rename_i h4; rw [if_neg h4]; simpa using h3
  · rintro ⟨h1, h2, h3⟩
    refine ⟨⟨by omega, h2⟩, ?_⟩
    split at h3
    · rename_i h; rw [if_pos h]; simpa using h3
    · rename_i h
      rw [if_neg h]
      split at h3
      · rename_i h4; rw [if_pos h4]; simpa using h3
      · rename_i h4; rw [if_neg h4]; simpa using h3
/-- a valid device with another zone -/
theorem valid_with {D : Dev} {k : Nat} {y z : Zone} (hc : checkE D = 0) (hk : D.zones[k]? = some y) (hz : rightB z D.size = true)
    (ho : countO D.zones + (if openB z.state = true then 1 else 0) ≤ D.maxOpen.toNat + (if openB y.state = true then 1 else 0))
    (ha : countA D.zones + (if activeB z.state = true then 1 else 0) ≤ D.maxActive.toNat + (if activeB y.state = true then 1 else 0)) : checkE (withZ D k z) = 0 := by
  obtain ⟨h1, h2, h3, h4⟩ := check_parts hc
  have hp := config_parts h1
  have c1 := countO_set D.zones k y z hk
  have c2 := countA_set D.zones k y z hk
  refine check_of ?_ (right_set h2 k hz) ?_ ?_
  · rw [configB_eq] at h1 ⊢
    simp only [withZ, List.length_set]
    exact h1
  · show (countO (D.zones.set k z) : Int) ≤ D.maxOpen
    omega
  · show (countA (D.zones.set k z) : Int) ≤ D.maxActive
    omega
theorem right_empty {size : Int} (h : 0 ≤ size) : rightB empty size = true := by
  rw [right_iff]
  refine ⟨?_, rfl, rfl⟩
  simp [empty]
  exact h
theorem zone_of {D : Dev} {k : Nat} (hk : k < D.zones.length) : ∃ y, D.zones[k]? = some y := ⟨D.zones[k], List.getElem?_eq_getElem hk⟩
/-- what a command leaves: a valid device with as many zones of one size, and what could be read but for one zone -/
structure Kept (D X : Dev) (k : Nat) : Prop where
  valid : checkE X = 0
  size : X.size = D.size
  op : X.maxOpen = D.maxOpen
  act : X.maxActive = D.maxActive
  length : X.zones.length = D.zones.length
/-- nothing that could be read is lost -/
def Reads (D X : Dev) (j : Nat) : Prop := ∀ y, D.zones[j]? = some y → ∃ x T, X.zones[j]? = some x ∧ x.sectors = y.sectors ++ T ∧ (x.state = 5 → y.state = 5)
theorem reads_refl (D : Dev) (j : Nat) : Reads D D j := fun y hy => ⟨y, [], hy, by simp, id⟩
theorem reads_trans {D X Y : Dev} {j : Nat} (h : Reads D X j) (h2 : Reads X Y j) : Reads D Y j := fun y hy => by
  obtain ⟨x, T, h1, h3, h4⟩ := h y hy
  obtain ⟨z, U, h5, h6, h7⟩ := h2 x h1
  exact ⟨z, T ++ U, h5, by rw [h6, h3, List.append_assoc], fun h => h4 (h7 h)⟩
theorem kept_refl {D : Dev} (hc : checkE D = 0) (k : Nat) : Kept D D k := ⟨hc, rfl, rfl, rfl, rfl⟩
theorem kept_with {D : Dev} {k : Nat} {z : Zone} (h : checkE (withZ D k z) = 0) : Kept D (withZ D k z) k := ⟨h, rfl, rfl, rfl, by simp [withZ]⟩
theorem kept_trans {D X Y : Dev} {k : Nat} (h : Kept D X k) (h2 : Kept X Y k) : Kept D Y k := ⟨h2.valid, h2.size.trans h.size, h2.op.trans h.op, h2.act.trans h.act, h2.length.trans h.length⟩
theorem reads_with {D : Dev} {k j : Nat} {y z : Zone} (hk : D.zones[k]? = some y) (T : List ByteArray) (hs : z.sectors = y.sectors ++ T) (h5 : z.state = 5 → y.state = 5) : Reads D (withZ D k z) j := fun x hx => by
  by_cases hjk : k = j
  · subst hjk
    obtain rfl := Option.some.inj (hk.symm.trans hx)
    exact ⟨z, T, by simp only [withZ]; rw [List.getElem?_set_self (List.getElem?_eq_some_iff.1 hk).1], hs, h5⟩
  · exact ⟨x, [], by simp only [withZ]; rw [List.getElem?_set_ne hjk]; exact hx, by simp, id⟩
theorem reads_other {D : Dev} {k j : Nat} (z : Zone) (hjk : k ≠ j) : Reads D (withZ D k z) j := fun x hx => ⟨x, [], by simp only [withZ]; rw [List.getElem?_set_ne hjk]; exact hx, by simp, id⟩
/-- the states of a right zone -/
theorem open_state {s : Int} (h : openB s = true) : s = 1 ∨ s = 2 := by
  unfold openB at h
  simpa using h
theorem act_state {s : Int} (h : activeB s = true) : s = 1 ∨ s = 2 ∨ s = 3 := by
  unfold activeB openB at h
  simp at h
  omega
theorem reset_kept {D : Dev} {k : Nat} (hc : checkE D = 0) (hk : k < D.zones.length) : Kept D (resetR D (k : Int)) k ∧ ∀ j, j ≠ k → Reads D (resetR D (k : Int)) j := by
  obtain ⟨y, hy⟩ := zone_of hk
  by_cases hb : beginE D (k : Int) = 0
  · rw [resetR_yes hb]
    obtain ⟨h1, h2, h3, h4⟩ := check_parts hc
    have hp := config_parts h1
    refine ⟨kept_with (valid_with hc hy (right_empty (by omega)) ?_ ?_), fun j hj => reads_other _ (Ne.symm hj)⟩
    · rw [if_neg (by decide)]; omega
    · rw [if_neg (by decide)]; omega
  · rw [resetR_no hb]
    exact ⟨kept_refl hc k, fun j _ => reads_refl D j⟩
theorem finish_kept {D : Dev} {k : Nat} (hc : checkE D = 0) (hk : k < D.zones.length) : Kept D (finishR D (k : Int)) k ∧ ∀ j, Reads D (finishR D (k : Int)) j := by
  obtain ⟨y, hy⟩ := zone_of hk
  by_cases hb : beginE D (k : Int) = 0
  · rw [finishR_yes hb hy]
    obtain ⟨h1, h2, h3, h4⟩ := check_parts hc
    have hr := (right_iff _ _).1 (right_all h2 hy)
    refine ⟨kept_with (valid_with hc hy ?_ ?_ ?_), fun j => reads_with hy [] (by simp) (fun h => by cases h)⟩
    · rw [right_iff]
      refine ⟨?_, hr.2.1, ?_⟩
      · simp only
        omega
      · rw [if_neg (by simp), if_pos rfl]
    · rw [if_neg (by simp [openB])]; omega
    · rw [if_neg (by simp [activeB, openB])]; omega
  · rw [finishR_no hb]
    exact ⟨kept_refl hc k, fun j => reads_refl D j⟩
/-- closing an active zone -/
theorem shut_kept {D : Dev} {k : Nat} {y : Zone} (hc : checkE D = 0) (hy : D.zones[k]? = some y) (ha : activeB y.state = true) : Kept D (withZ D k (shut y)) k ∧ ∀ j, Reads D (withZ D k (shut y)) j := by
  obtain ⟨h1, h2, h3, h4⟩ := check_parts hc
  have hr := (right_iff _ _).1 (right_all h2 hy)
  have hst := act_state ha
  have hlen : (y.sectors.length : Int) < D.size := by
    have := hr.2.2
    rw [if_neg (by omega), if_neg (by omega)] at this
    exact this
  have hns : (shut y).state = 0 ∧ y.sectors.length = 0 ∨ (shut y).state = 3 ∧ y.sectors.length ≠ 0 := by
    unfold shut
    by_cases h : y.sectors.length = 0
    · exact .inl ⟨if_pos h, h⟩
    · exact .inr ⟨if_neg h, h⟩
  refine ⟨kept_with (valid_with hc hy ?_ ?_ ?_), fun j => reads_with hy [] (by simp [shut]) (fun h => by omega)⟩
  · rw [right_iff]
    have e1 : (shut y).durable = y.durable := rfl
    have e2 : (shut y).sectors = y.sectors := rfl
    rw [e1, e2]
    refine ⟨by omega, hr.2.1, ?_⟩
    rcases hns with ⟨h, h'⟩ | ⟨h, h'⟩
    · rw [if_pos (.inl h)]; exact h'
    · rw [if_neg (by omega), if_neg (by omega)]; exact hlen
  · have : openB (shut y).state = false := by rcases hns with ⟨h, _⟩ | ⟨h, _⟩ <;> rw [h] <;> rfl
    rw [this, if_neg (by decide)]; omega
  · rw [if_pos ha]
    split <;> omega
theorem close_kept {D : Dev} {k : Nat} (hc : checkE D = 0) (hk : k < D.zones.length) : Kept D (closeR D (k : Int)) k ∧ ∀ j, Reads D (closeR D (k : Int)) j := by
  obtain ⟨y, hy⟩ := zone_of hk
  unfold closeR
  split
  · rename_i he
    split
    · exact ⟨kept_refl hc k, fun j => reads_refl D j⟩
    · rw [Int.toNat_natCast, getD_of hy]
      refine shut_kept hc hy ?_
      unfold closeE at he
      split at he
      · rename_i hb; exact absurd he hb
      · split at he
        · rename_i h; rw [stateAt_of hy] at h; exact h
        · cases he
  · exact ⟨kept_refl hc k, fun j => reads_refl D j⟩
/-- making room -/
theorem cleared_kept {D : Dev} (hc : checkE D = 0) (h8 : ¬ (D.maxOpen ≤ countO D.zones ∧ firstOpen D.zones = D.zones.length)) (k : Nat) : Kept D (cleared D) k ∧ (∀ j, Reads D (cleared D) j) ∧ (countO (cleared D).zones : Int) < D.maxOpen ∧ countA (cleared D).zones ≤ countA D.zones := by
  obtain ⟨h1, h2, h3, h4⟩ := check_parts hc
  have hp := config_parts h1
  unfold cleared
  split
  · rename_i hO
    have hf : firstOpen D.zones < D.zones.length := by
      have := first_le D.zones
      rcases Nat.lt_or_ge (firstOpen D.zones) D.zones.length with h | h
      · exact h
      · exact absurd ⟨hO, by omega⟩ h8
    obtain ⟨y, hy⟩ := zone_of hf
    have hs := first_eq _ _ hy
    rw [getD_of hy]
    have ha : activeB y.state = true := by rw [hs]; rfl
    have hk := shut_kept hc hy ha
    have hcl := closing_counts hy hs
    refine ⟨⟨hk.1.valid, rfl, rfl, rfl, hk.1.length⟩, hk.2, ?_, hcl.2⟩
    show (countO (D.zones.set (firstOpen D.zones) (shut y)) : Int) < D.maxOpen
    omega
  · rename_i hO
    exact ⟨kept_refl hc k, fun j => reads_refl D j, by omega, Nat.le_refl _⟩
theorem room_no {D : Dev} {k : Nat} (h : roomE D k = 0) : ¬ (D.maxOpen ≤ countO D.zones ∧ firstOpen D.zones = D.zones.length) ∧ (activeB (D.zones.getD k empty).state = false → ¬ D.maxActive ≤ countA (cleared D).zones) := by
  unfold roomE at h
  split at h
  · cases h
  · rename_i h1
    split at h
    · cases h
    · rename_i h2
      exact ⟨h1, fun ha hm => h2 ⟨ha, hm⟩⟩
/-- a zone that is made open, or full, in a device that is ready for it -/
theorem ready_kept {D : Dev} {k : Nat} {y : Zone} (hc : checkE D = 0) (hy : D.zones[k]? = some y) (h : openB y.state = true ∨ roomE D k = 0) :
    Kept D (ready D (k : Int)) k ∧ (∀ j, Reads D (ready D (k : Int)) j) ∧ (ready D (k : Int)).zones[k]? = some y ∧
      countO (ready D (k : Int)).zones + 1 ≤ D.maxOpen.toNat + (if openB y.state = true then 1 else 0) ∧ countA (ready D (k : Int)).zones + 1 ≤ D.maxActive.toNat + (if activeB y.state = true then 1 else 0) := by
  obtain ⟨h1, h2, h3, h4⟩ := check_parts hc
  have hat := ready_at hy
  cases ho : openB y.state with
  | true =>
    have hrd : ready D (k : Int) = D := by unfold ready; rw [stateAt_of hy, if_pos ho]
    rw [hrd]
    have ha : activeB y.state = true := by simp [activeB, ho]
    rw [ha, if_pos rfl]
    exact ⟨kept_refl hc k, fun j => reads_refl D j, hy, by omega, by omega⟩
  | false =>
    have hE : roomE D k = 0 := by
      rcases h with h | h
      · rw [ho] at h; cases h
      · exact h
    have hrd : ready D (k : Int) = cleared D := by
      unfold ready
      rw [stateAt_of hy, ho, if_neg (by decide), Int.toNat_natCast]
      unfold roomR
      rw [if_pos hE]
    rw [hrd] at hat ⊢
    obtain ⟨r1, r2⟩ := room_no hE
    rw [getD_of hy] at r2
    obtain ⟨k1, k2, k3, k4⟩ := cleared_kept hc r1 k
    refine ⟨k1, k2, hat, by rw [if_neg (by decide)]; omega, ?_⟩
    cases ha : activeB y.state with
    | true => rw [if_pos rfl]; omega
    | false =>
      have := r2 ha
      rw [if_neg (by decide)]
      omega
theorem open_kept {D : Dev} {k : Nat} (hc : checkE D = 0) (hk : k < D.zones.length) : Kept D (openR D (k : Int)) k ∧ ∀ j, Reads D (openR D (k : Int)) j := by
  obtain ⟨y, hy⟩ := zone_of hk
  unfold openR
  split
  · rename_i he
    unfold openE at he
    split at he
    · rename_i hb; exact absurd he hb
    · rename_i hb
      have hb : beginE D (k : Int) = 0 := by omega
      obtain ⟨i, hi, -, -, h5⟩ := begin_range hb
      split at he
      · cases he
      · rename_i h4
        rw [stateAt_of hy] at h4 h5 he
        have hro : openB y.state = true ∨ roomE D k = 0 := by
          split at he
          · rename_i h; exact .inl h
          · exact .inr he
        obtain ⟨r1, r2, r3, r4, r5⟩ := ready_kept hc hy hro
        rw [Int.toNat_natCast, getD_of r3]
        have hr := (right_iff _ _).1 (right_all (check_parts hc).2.1 hy)
        have hlen : (y.sectors.length : Int) < D.size := by
          have := hr.2.2
          split at this
          · rename_i h0
            have := (config_parts (check_parts hc).1).2.2.1
            omega
          · first | exact this | (rw [if_neg h4] at this; exact this)
        have hv : checkE (withZ (ready D (k : Int)) k (held y)) = 0 := by
          refine valid_with r1.valid r3 ?_ ?_ ?_
          · rw [right_iff, r1.size]
            refine ⟨⟨by simp [held], by simp [held], hr.1.2.2.1, hr.1.2.2.2.1, hr.1.2.2.2.2⟩, hr.2.1, ?_⟩
            rw [if_neg (by simp [held]), if_neg (by simp [held])]
            exact hlen
          · rw [r1.op, show openB (held y).state = true from rfl, if_pos rfl]; exact r4
          · rw [r1.act, show activeB (held y).state = true from rfl, if_pos rfl]; exact r5
        exact ⟨kept_trans r1 (kept_with hv), fun j => reads_trans (r2 j) (reads_with r3 [] (by simp [held]) (fun h => by simp [held] at h))⟩
  · exact ⟨kept_refl hc k, fun j => reads_refl D j⟩
theorem sizes_app {L : List ByteArray} {s : ByteArray} (h : sizesB L = true) (hs : s.size = 40) : sizesB (L ++ [s]) = true := by
  rw [sizesB_snoc, h, hs]; rfl
theorem append_kept {D : Dev} {k : Nat} {s : ByteArray} (hc : checkE D = 0) (hk : k < D.zones.length) : Kept D (appendR D (k : Int) s) k ∧ ∀ j, Reads D (appendR D (k : Int) s) j := by
  obtain ⟨y, hy⟩ := zone_of hk
  unfold appendR
  split
  · rename_i he
    unfold appendE at he
    split at he
    · rename_i hb; exact absurd he hb
    · split at he
      · cases he
      · rename_i hs
        split at he
        · cases he
        · rename_i h5
          split at he
          · cases he
          · rename_i h4
            rw [stateAt_of hy] at h4 h5 he
            have hs : s.size = 40 := by omega
            have hro : openB y.state = true ∨ roomE D k = 0 := by
              split at he
              · rename_i h; exact .inl h
              · exact .inr he
            obtain ⟨r1, r2, r3, r4, r5⟩ := ready_kept hc hy hro
            rw [Int.toNat_natCast, getD_of r3]
            have hr := (right_iff _ _).1 (right_all (check_parts hc).2.1 hy)
            have hlen : (y.sectors.length : Int) < D.size := by
              have := hr.2.2
              split at this
              · rename_i h0
                have := (config_parts (check_parts hc).1).2.2.1
                omega
              · first | exact this | (rw [if_neg h4] at this; exact this)
            have hsz := sizes_app hr.2.1 hs
            have hv : checkE (withZ (ready D (k : Int)) k (appended y s D.size)) = 0 := by
              unfold appended
              split
              · rename_i hf
                refine valid_with r1.valid r3 ?_ ?_ ?_
                · rw [right_iff, r1.size]
                  refine ⟨?_, hsz, ?_⟩
                  · simp only [List.length_append, List.length_singleton]
                    omega
                  · rw [if_neg (by simp), if_pos rfl]
                    simp only [List.length_append, List.length_singleton]
                    omega
                · rw [r1.op, show openB (4 : Int) = false from rfl, if_neg (by decide)]; omega
                · rw [r1.act, show activeB (4 : Int) = false from rfl, if_neg (by decide)]; omega
              · rename_i hf
                have hst : (if openB y.state = true then y.state else 1) = 1 ∨ (if openB y.state = true then y.state else 1) = 2 := by
                  split
                  · rename_i h; exact open_state h
                  · exact .inl rfl
                generalize (if openB y.state = true then y.state else 1) = st at hst
                have o1 : openB st = true := by rcases hst with rfl | rfl <;> rfl
                have a1 : activeB st = true := by rcases hst with rfl | rfl <;> rfl
                refine valid_with r1.valid r3 ?_ ?_ ?_
                · rw [right_iff, r1.size]
                  refine ⟨?_, hsz, ?_⟩
                  · simp only [List.length_append, List.length_singleton]
                    omega
                  · simp only [List.length_append, List.length_singleton]
                    rw [if_neg (by omega), if_neg (by omega)]
                    omega
                · rw [r1.op, o1, if_pos rfl]; exact r4
                · rw [r1.act, a1, if_pos rfl]; exact r5
            refine ⟨kept_trans r1 (kept_with hv), fun j => reads_trans (r2 j) (reads_with r3 [s] (appended_sectors y s D.size) (fun h => ?_))⟩
            unfold appended at h
            split at h
            · cases h
            · simp only at h
              split at h
              · exact h
              · cases h
  · exact ⟨kept_refl hc k, fun j => reads_refl D j⟩
end Go.Proofs.Ytlplomofgbmgaaa

/- The walks of the maker's Rest and Command but for two kinds of commands. -/
namespace Go.Proofs.Ytlplomofgbmgaaa
open Go.RowKit Plan ZnsMath

theorem agree_grown {F : Nat → Prop} {w w' : World} {g : Nat} (h : w.grownBy w' (some g)) (hg : ¬ F g) : Agree F w w' :=
  ⟨h.size, fun b hb hlt => h.block b hlt (fun e => hg (by have e := Option.some.inj e; subst e; exact hb))⟩
set_option maxHeartbeats 2000000 in
set_option maxRecDepth 20000 in
theorem rest_any (w : World) (base g : Nat) (zs : List Int) (k : Nat) (hd : Dice w base g zs k) (hl : zs.length ≤ 100000) (hk : k ≤ zs.length) :
    Calls Try.prog 25 #[.pointer (some ⟨g, 0, none⟩)] w fun e w' => e = .returned (.int .i64 ((zs.length - k : Nat) : Int)) ∧ Dice w' base g zs k ∧ w.grownBy w' (some g) ∧ w'.heap.size = w.heap.size := by
  have hd2 := dice_drew hd
  obtain ⟨v, hg, hown, -, -⟩ := hd
  obtain ⟨a, cap, rfl⟩ : ∃ a cap, v = .slice a zs.length cap := by
    rcases hown.2 with ⟨rfl, h0⟩ | ⟨g', cap, cur, rfl, _⟩
    · exact ⟨none, 0, by rw [h0]⟩
    · exact ⟨_, _, rfl⟩
  have c0 := cell_of_row _ _ 0 _ _ _ hg
  have c1 := cell_of_row _ _ 1 _ _ _ hg
  have hsub : (zs.length : Int) - (k : Int) = ((zs.length - k : Nat) : Int) := by omega
  generalize hM : zs.length - k = M at *
  have hw : IntKind.i64.wrap (M : Int) = (M : Int) := by rw [IntKind.wrap_i64]; omega
  go_enter Try.func25, Try.ntmps25
  go_wp2_with fail
  refine Plan.start (fun W => W.cell? ⟨g, 0, none⟩ = some (.slice a zs.length cap) ∧ W.cell? ⟨g, 1, none⟩ = some (.int .i64 k)) [(0, true), (1, true), (2, true), (3, true), (4, true), (5, true), (6, true), (7, true), (8, true), (9, true), (10, true), (11, true)] (by kernel_rfl) (by kernel_rfl) (by kernel_rfl) (by kernel_rfl) ⟨c0, c1⟩ ?_
  simp only [List.map_cons, List.map_nil, List.getElem?_toArray, List.getElem?_cons_zero, List.getElem?_cons_succ]
  repeat (first | (refine Plan.take ?_ (by rfl) ?_ ?_; rotate_left; (· rintro w9 ⟨e0, e1⟩; go_simp; (try rw [if_neg (by omega)]); all_goals (with_reducible rfl)); simp only [Act.put, List.setIfInBounds_toArray, List.set_cons_zero, List.set_cons_succ]) | (refine Plan.pass (by rfl) ?_; simp only [Act.put, List.setIfInBounds_toArray, List.set_cons_zero, List.set_cons_succ]))
  refine Plan.ends ?_
  go_wp2_with fail
  all_goals
    go_ret
    refine ⟨?_, hd2, grownBy_drew w _, rfl⟩
  · rfl
  · obtain rfl : M = 0 := by omega
    rfl
/-- what a command of the maker leaves -/
def CmdPost (w : World) (F : Nat → Prop) (base g : Nat) (zs : List Int) (k n : Nat) (e : Ending) (w' : World) : Prop :=
  ∃ (D' : Dev) (a' : Option Addr) (cap' k' : Nat), e = .returned (devV D' a' n cap') ∧ ZonesIn w' (Plus F w.heap.size) a' n cap' D'.zones ∧ checkE D' = 0 ∧ k < k' ∧ k' ≤ zs.length ∧ Dice w' base g zs k' ∧ w.grownBy w' (some g)
theorem stp_step {zs : List Int} {k : Nat} (h : k < zs.length) : stp zs k = k + 1 := by unfold stp; rw [if_pos h]
theorem stp_ge (zs : List Int) (k : Nat) : k ≤ stp zs k := by unfold stp; split <;> omega
theorem stp_end {zs : List Int} {k : Nat} (h : k ≤ zs.length) : stp zs k ≤ zs.length := by unfold stp; split <;> omega
theorem below_grown {w w' : World} (h : Below w.heap.size w w') (g : Nat) : w.grownBy w' (some g) := ⟨h.os, h.tape, h.output, h.size, fun k hk _ => h.block k hk⟩
set_option maxHeartbeats 2000000 in
set_option maxRecDepth 20000 in
theorem cmd_reset (F : Nat → Prop) (D : Dev) (a : Option Addr) (n cap base g : Nat) (zs : List Int) (k : Nat) (w : World) (hF : ∀ b, F b → b < w.heap.size) (hFg : ¬ F g) (hz : ZonesIn w F a n cap D.zones) (hn1 : 1 ≤ n) (hn : n ≤ 1000) (hc : checkE D = 0) (hd : Dice w base g zs k) (hl : zs.length ≤ 100000) (hk : k < zs.length) (hcc : nxt zs (stp zs k) 9 = 0) (hEE : ∀ i : Nat, nxt zs k (n : Int) = (i : Int) → beginE D (i : Int) = 0) :
    Calls Try.prog 26 #[.pointer (some ⟨g, 0, none⟩), devV D a n cap, .int .i64 (n : Int)] w (CmdPost w F base g zs k n) := by
  have hgl := dice_lt hd
  have hlen := hz.is.length
  obtain ⟨i, hi, hin⟩ : ∃ i : Nat, nxt zs k (n : Int) = (i : Int) ∧ i < n := by
    have := nxt_range zs k (n : Int) (by omega)
    exact ⟨(nxt zs k (n : Int)).toNat, by omega, by omega⟩
  have hnx1 : ∀ W, Dice W base g zs k → Calls Try.prog 23 #[.pointer (some ⟨g, 0, none⟩), .int .i64 (n : Int)] W (NextPost W base g zs k (n : Int)) := fun W h => next_any W base g zs k n h hl (by omega) (by omega)
  have hnx2 : ∀ W, Dice W base g zs (stp zs k) → Calls Try.prog 23 #[.pointer (some ⟨g, 0, none⟩), .int .i64 9] W (NextPost W base g zs (stp zs k) 9) := fun W h => next_any W base g zs _ 9 h hl (by decide) (by decide)
  have hA : Below w.heap.size w ((w.alloc (devRow D.size D.maxOpen D.maxActive a n cap)).alloc (devRow 0 0 0 none 0 0)) := ((Below.refl _ _).alloc (Nat.le_refl _) _).alloc (by simp) _
  have ZI := Lib.hid hi
  have N1 := Lib.hid hnx1
  have N2 := Lib.hid hnx2
  have HA := Lib.hid hA
  have HZ := Lib.hid hz
  have D0 := Lib.hid (dice_alloc (dice_alloc hd (devRow D.size D.maxOpen D.maxActive a n cap)) (devRow 0 0 0 none 0 0))
  have hk' : k < stp zs (stp zs k) ∧ stp zs (stp zs k) ≤ zs.length := by
    rw [stp_step hk]
    have := stp_ge zs (k + 1)
    have := stp_end (zs := zs) (k := k + 1) (by omega)
    omega
  have HKK := Lib.hid hk'
  have hee := hEE i hi
  have hkp := (reset_kept hc (k := i) (by omega)).1.valid
  have hop : ∀ W, (∀ b, F b → b < W.heap.size) → ZonesIn W F a n cap D.zones → Calls Try.prog 35 #[devV D a n cap, .int .i64 (i : Int)] W fun e w' => ∃ a' cap', e = .returned (.tuple #[devV (resetR D (i : Int)) a' n cap', .int .i64 (beginE D (i : Int))]) ∧ ZonesIn w' (Plus F W.heap.size) a' n cap' (resetR D (i : Int)).zones ∧ Below W.heap.size W w' := fun W h1 h2 => refReset_any F D a n cap i W h1 h2 (by omega)
  rw [hee] at hop
  generalize resetR D (i : Int) = R at *
  have HO := Lib.hid hop
  have HC := Lib.hid hcc
  clear hop hnx1 hnx2 hA hd hi hcc hEE hee hk'
  unfold CmdPost
  obtain ⟨size, op, act, Z⟩ := D
  obtain ⟨rs, ro, ra, RZ⟩ := R
  go_enter Try.func26, Try.ntmps26
  go_wp2_with (first
    | (go_at_call 23; ((with_reducible refine (N1.out _ D0.out).mono ?_); rintro e w1 ⟨rfl, hd1, hg1, hs1⟩; rw [ZI.out]; have hx1 := row_grown hg1 (heap_first2 w _ _) (by omega); have hr1 := row_grown hg1 (heap_second w _ _) (by omega); have t1 : w1.heap.size = w.heap.size + 1 + 1 := hs1.trans (by simp only [World.size_alloc]); have hv1 : (w1.alloc (devRow size op act a n cap)).heap[w.heap.size + 1 + 1]? = some (devRow size op act a n cap) := (by rw [← t1]; exact heap_alloc_new w1 (devRow size op act a n cap)); have hx1' := row_al hx1 (devRow size op act a n cap); have hr1' := row_al hr1 (devRow size op act a n cap); obtain ⟨y1, d0, d1, d2, d3⟩ := row4 hx1; have hz1 := ((HZ.out.on (Agree.below HA.out)).on (agree_grown hg1 hFg)).on (Agree.below ((Below.refl _ _).alloc (Nat.le_refl _) (devRow size op act a n cap))); have G1 := grownBy_trans (grownBy_trans (below_grown HA.out g) hg1) (World.grownBy_alloc w1 (devRow size op act a n cap) (some g))))
    | (go_at_call 23; ((with_reducible refine (N2.out _ (dice_alloc hd1 _)).mono ?_); rintro e w2 ⟨rfl, hd2, hg2, hs2⟩; rw [HC.out]; have hx2 := row_grown hg2 hx1' (by omega); have hr2 := row_grown hg2 hr1' (by omega); have hv2 := row_grown hg2 hv1 (by omega); obtain ⟨y2, d0, d1, d2, d3⟩ := row4 hx2; have hz2 := hz1.on (agree_grown hg2 hFg); have t2 : w2.heap.size = w1.heap.size + 1 := hs2.trans (World.size_alloc _ _); have G2 := grownBy_trans G1 hg2; have l0 := (row4 hv2).2.1; have l1 := (row4 hv2).2.2.1; have l2 := (row4 hv2).2.2.2.1; have l3 := (row4 hv2).2.2.2.2))
    | (go_at_call 35; ((with_reducible refine (HO.out w2 (fun b hb => by have := hF b hb; omega) hz2).mono ?_); rintro e w3 ⟨a3, c3, rfl, hz3, hb3⟩; have hx3 := row_on hb3 hx2 (lt_of_block hx2); have hr3 := row_on hb3 hr2 (lt_of_block hr2); have hv3 := row_on hb3 hv2 (lt_of_block hv2); have hd3 := dice_on hd2 hb3 (Nat.le_refl _); have G3 := grownBy_trans G2 (below_grown hb3 g)))
    | ((with_reducible refine Plan.store_lit 24 (.tmp 8) _ (w.heap.size + 1 + 1) ?_ hv3 ?_ ?_ ?_ ?_ ?_ ?_); rotate_left; (· rfl); (· rfl); (· exact dev_info); (· rfl); (· simp [Value.oneCell']); simp only [Act.put]; have hv4 := setRow_heap _ _ _ #[.int .i64 rs, .int .i64 ro, .int .i64 ra, .slice a3 n c3] _ _ hv3; have hx4 := (setRow_other _ (w.heap.size + 1 + 1) w.heap.size #[.int .i64 rs, .int .i64 ro, .int .i64 ra, .slice a3 n c3] (by omega)).trans hx3; have hr4 := (setRow_other _ (w.heap.size + 1 + 1) (w.heap.size + 1) #[.int .i64 rs, .int .i64 ro, .int .i64 ra, .slice a3 n c3] (by omega)).trans hr3; have hz4 := hz3.on (Agree.row (r := (w.heap.size + 1 + 1)) (by rintro (h | h); (· have := hF _ h; omega); (· omega)) #[.int .i64 rs, .int .i64 ro, .int .i64 ra, .slice a3 n c3]); have hd4 := dice_far hd3 (grownBy_setRow w3 (w.heap.size + 1 + 1) #[.int .i64 rs, .int .i64 ro, .int .i64 ra, .slice a3 n c3]) (by omega); have G4 := grownBy_row G3 (x := (w.heap.size + 1 + 1)) (by omega) #[.int .i64 rs, .int .i64 ro, .int .i64 ra, .slice a3 n c3]; generalize w3.setRow (w.heap.size + 1 + 1) #[.int .i64 rs, .int .i64 ro, .int .i64 ra, .slice a3 n c3] = w4 at hv4 hx4 hr4 hz4 hd4 G4 ⊢; clear d0 d1 d2 d3 l0 l1 l2 l3; obtain ⟨y4, d0, d1, d2, d3⟩ := row4 hx4; obtain ⟨v4, l0, l1, l2, l3⟩ := row4 hv4)
    | ((with_reducible refine Plan.store_lit 24 (.tmp 6) _ (w.heap.size + 1) ?_ hr4 ?_ ?_ ?_ ?_ ?_ ?_); rotate_left; (· rfl); (· rfl); (· exact dev_info); (· rfl); (· simp [Value.oneCell']); simp only [Act.put]))
  have hz5 := hz4.on (Agree.row (r := w.heap.size + 1) (by rintro (h | h); (· have := hF _ h; omega); (· omega)) #[.int .i64 rs, .int .i64 ro, .int .i64 ra, .slice a3 n c3])
  exact bodyPost_ret (results_cell_row rfl _ _ _ _ _ _ _ rfl (setRow_heap _ _ _ _ _ _ hr4) Try.underlying24 rfl dev_info) rfl ⟨⟨rs, ro, ra, RZ⟩, a3, c3, _, rfl, hz5.mono (fun _ _ h => h.imp id (fun h => by omega)), hkp, HKK.out.1, HKK.out.2, dice_far hd4 (grownBy_setRow w4 _ _) (by omega), grownBy_row G4 (by omega) _⟩
set_option maxHeartbeats 2000000 in
set_option maxRecDepth 20000 in
theorem cmd_reset_err (F : Nat → Prop) (D : Dev) (a : Option Addr) (n cap base g : Nat) (zs : List Int) (k : Nat) (w : World) (hF : ∀ b, F b → b < w.heap.size) (hFg : ¬ F g) (hz : ZonesIn w F a n cap D.zones) (hn1 : 1 ≤ n) (hn : n ≤ 1000) (hc : checkE D = 0) (hd : Dice w base g zs k) (hl : zs.length ≤ 100000) (hk : k < zs.length) (hcc : nxt zs (stp zs k) 9 = 0) (hEE : ∀ i : Nat, nxt zs k (n : Int) = (i : Int) → beginE D (i : Int) ≠ 0) :
    Calls Try.prog 26 #[.pointer (some ⟨g, 0, none⟩), devV D a n cap, .int .i64 (n : Int)] w (CmdPost w F base g zs k n) := by
  have hgl := dice_lt hd
  have hlen := hz.is.length
  obtain ⟨i, hi, hin⟩ : ∃ i : Nat, nxt zs k (n : Int) = (i : Int) ∧ i < n := by
    have := nxt_range zs k (n : Int) (by omega)
    exact ⟨(nxt zs k (n : Int)).toNat, by omega, by omega⟩
  have hnx1 : ∀ W, Dice W base g zs k → Calls Try.prog 23 #[.pointer (some ⟨g, 0, none⟩), .int .i64 (n : Int)] W (NextPost W base g zs k (n : Int)) := fun W h => next_any W base g zs k n h hl (by omega) (by omega)
  have hnx2 : ∀ W, Dice W base g zs (stp zs k) → Calls Try.prog 23 #[.pointer (some ⟨g, 0, none⟩), .int .i64 9] W (NextPost W base g zs (stp zs k) 9) := fun W h => next_any W base g zs _ 9 h hl (by decide) (by decide)
  have hA : Below w.heap.size w ((w.alloc (devRow D.size D.maxOpen D.maxActive a n cap)).alloc (devRow 0 0 0 none 0 0)) := ((Below.refl _ _).alloc (Nat.le_refl _) _).alloc (by simp) _
  have ZI := Lib.hid hi
  have N1 := Lib.hid hnx1
  have N2 := Lib.hid hnx2
  have HA := Lib.hid hA
  have HZ := Lib.hid hz
  have D0 := Lib.hid (dice_alloc (dice_alloc hd (devRow D.size D.maxOpen D.maxActive a n cap)) (devRow 0 0 0 none 0 0))
  have hk' : k < stp zs (stp zs k) ∧ stp zs (stp zs k) ≤ zs.length := by
    rw [stp_step hk]
    have := stp_ge zs (k + 1)
    have := stp_end (zs := zs) (k := k + 1) (by omega)
    omega
  have HKK := Lib.hid hk'
  have hee := hEE i hi
  have hkp := (reset_kept hc (k := i) (by omega)).1.valid
  have hop : ∀ W, (∀ b, F b → b < W.heap.size) → ZonesIn W F a n cap D.zones → Calls Try.prog 35 #[devV D a n cap, .int .i64 (i : Int)] W fun e w' => ∃ a' cap', e = .returned (.tuple #[devV (resetR D (i : Int)) a' n cap', .int .i64 (beginE D (i : Int))]) ∧ ZonesIn w' (Plus F W.heap.size) a' n cap' (resetR D (i : Int)).zones ∧ Below W.heap.size W w' := fun W h1 h2 => refReset_any F D a n cap i W h1 h2 (by omega)
  generalize beginE D (i : Int) = E at *
  have he0 : (E != 0) = true := by simp [hee]
  generalize resetR D (i : Int) = R at *
  have HO := Lib.hid hop
  have HC := Lib.hid hcc
  clear hop hnx1 hnx2 hA hd hi hcc hEE hee hk'
  unfold CmdPost
  obtain ⟨size, op, act, Z⟩ := D
  obtain ⟨rs, ro, ra, RZ⟩ := R
  go_enter Try.func26, Try.ntmps26
  go_wp2_with (first
    | (go_at_call 23; ((with_reducible refine (N1.out _ D0.out).mono ?_); rintro e w1 ⟨rfl, hd1, hg1, hs1⟩; rw [ZI.out]; have hx1 := row_grown hg1 (heap_first2 w _ _) (by omega); have hr1 := row_grown hg1 (heap_second w _ _) (by omega); have t1 : w1.heap.size = w.heap.size + 1 + 1 := hs1.trans (by simp only [World.size_alloc]); have hv1 : (w1.alloc (devRow size op act a n cap)).heap[w.heap.size + 1 + 1]? = some (devRow size op act a n cap) := (by rw [← t1]; exact heap_alloc_new w1 (devRow size op act a n cap)); have hx1' := row_al hx1 (devRow size op act a n cap); have hr1' := row_al hr1 (devRow size op act a n cap); obtain ⟨y1, d0, d1, d2, d3⟩ := row4 hx1; have hz1 := ((HZ.out.on (Agree.below HA.out)).on (agree_grown hg1 hFg)).on (Agree.below ((Below.refl _ _).alloc (Nat.le_refl _) (devRow size op act a n cap))); have G1 := grownBy_trans (grownBy_trans (below_grown HA.out g) hg1) (World.grownBy_alloc w1 (devRow size op act a n cap) (some g))))
    | (go_at_call 23; ((with_reducible refine (N2.out _ (dice_alloc hd1 _)).mono ?_); rintro e w2 ⟨rfl, hd2, hg2, hs2⟩; rw [HC.out]; have hx2 := row_grown hg2 hx1' (by omega); have hr2 := row_grown hg2 hr1' (by omega); have hv2 := row_grown hg2 hv1 (by omega); obtain ⟨y2, d0, d1, d2, d3⟩ := row4 hx2; have hz2 := hz1.on (agree_grown hg2 hFg); have t2 : w2.heap.size = w1.heap.size + 1 := hs2.trans (World.size_alloc _ _); have G2 := grownBy_trans G1 hg2; have l0 := (row4 hv2).2.1; have l1 := (row4 hv2).2.2.1; have l2 := (row4 hv2).2.2.2.1; have l3 := (row4 hv2).2.2.2.2))
    | (go_at_call 35; ((with_reducible refine (HO.out w2 (fun b hb => by have := hF b hb; omega) hz2).mono ?_); rintro e w3 ⟨a3, c3, rfl, hz3, hb3⟩; have hx3 := row_on hb3 hx2 (lt_of_block hx2); have hr3 := row_on hb3 hr2 (lt_of_block hr2); have hv3 := row_on hb3 hv2 (lt_of_block hv2); have hd3 := dice_on hd2 hb3 (Nat.le_refl _); have G3 := grownBy_trans G2 (below_grown hb3 g)))
    | ((with_reducible refine Plan.store_lit 24 (.tmp 8) _ (w.heap.size + 1 + 1) ?_ hv3 ?_ ?_ ?_ ?_ ?_ ?_); rotate_left; (· rfl); (· rfl); (· exact dev_info); (· rfl); (· simp [Value.oneCell']); simp only [Act.put]; have hv4 := setRow_heap _ _ _ #[.int .i64 rs, .int .i64 ro, .int .i64 ra, .slice a3 n c3] _ _ hv3; have hx4 := (setRow_other _ (w.heap.size + 1 + 1) w.heap.size #[.int .i64 rs, .int .i64 ro, .int .i64 ra, .slice a3 n c3] (by omega)).trans hx3; have hr4 := (setRow_other _ (w.heap.size + 1 + 1) (w.heap.size + 1) #[.int .i64 rs, .int .i64 ro, .int .i64 ra, .slice a3 n c3] (by omega)).trans hr3; have hz4 := hz3.on (Agree.row (r := (w.heap.size + 1 + 1)) (by rintro (h | h); (· have := hF _ h; omega); (· omega)) #[.int .i64 rs, .int .i64 ro, .int .i64 ra, .slice a3 n c3]); have hd4 := dice_far hd3 (grownBy_setRow w3 (w.heap.size + 1 + 1) #[.int .i64 rs, .int .i64 ro, .int .i64 ra, .slice a3 n c3]) (by omega); have G4 := grownBy_row G3 (x := (w.heap.size + 1 + 1)) (by omega) #[.int .i64 rs, .int .i64 ro, .int .i64 ra, .slice a3 n c3]; generalize w3.setRow (w.heap.size + 1 + 1) #[.int .i64 rs, .int .i64 ro, .int .i64 ra, .slice a3 n c3] = w4 at hv4 hx4 hr4 hz4 hd4 G4 ⊢; clear d0 d1 d2 d3 l0 l1 l2 l3; obtain ⟨y4, d0, d1, d2, d3⟩ := row4 hx4; obtain ⟨v4, l0, l1, l2, l3⟩ := row4 hv4)
    | ((with_reducible refine Plan.store_lit 24 (.tmp 6) _ (w.heap.size + 1) ?_ hr4 ?_ ?_ ?_ ?_ ?_ ?_); rotate_left; (· rfl); (· rfl); (· exact dev_info); (· rfl); (· simp [Value.oneCell']); simp only [Act.put]))
  have hzf := (((HZ.out.on (Agree.below HA.out)).mono (G := fun b => F b) (fun _ _ h => h)))
  have hzw : ZonesIn w4 F a n cap Z := HZ.out.on (agree_grown G4 hFg)
  have hz5 := hzw.on (Agree.row (r := w.heap.size + 1) (fun h => by have := hF _ h; omega) #[.int .i64 size, .int .i64 op, .int .i64 act, .slice a n cap])
  exact bodyPost_ret (results_cell_row rfl _ _ _ _ _ _ _ rfl (setRow_heap _ _ _ _ _ _ hr4) Try.underlying24 rfl dev_info) rfl ⟨⟨size, op, act, Z⟩, a, cap, _, rfl, hz5.mono (fun _ _ h => .inl h), hc, HKK.out.1, HKK.out.2, dice_far hd4 (grownBy_setRow w4 _ _) (by omega), grownBy_row G4 (by omega) _⟩
set_option maxHeartbeats 2000000 in
set_option maxRecDepth 20000 in
theorem cmd_finish (F : Nat → Prop) (D : Dev) (a : Option Addr) (n cap base g : Nat) (zs : List Int) (k : Nat) (w : World) (hF : ∀ b, F b → b < w.heap.size) (hFg : ¬ F g) (hz : ZonesIn w F a n cap D.zones) (hn1 : 1 ≤ n) (hn : n ≤ 1000) (hc : checkE D = 0) (hd : Dice w base g zs k) (hl : zs.length ≤ 100000) (hk : k < zs.length) (hcc : nxt zs (stp zs k) 9 = 1) (hEE : ∀ i : Nat, nxt zs k (n : Int) = (i : Int) → beginE D (i : Int) = 0) :
    Calls Try.prog 26 #[.pointer (some ⟨g, 0, none⟩), devV D a n cap, .int .i64 (n : Int)] w (CmdPost w F base g zs k n) := by
  have hgl := dice_lt hd
  have hlen := hz.is.length
  obtain ⟨i, hi, hin⟩ : ∃ i : Nat, nxt zs k (n : Int) = (i : Int) ∧ i < n := by
    have := nxt_range zs k (n : Int) (by omega)
    exact ⟨(nxt zs k (n : Int)).toNat, by omega, by omega⟩
  have hnx1 : ∀ W, Dice W base g zs k → Calls Try.prog 23 #[.pointer (some ⟨g, 0, none⟩), .int .i64 (n : Int)] W (NextPost W base g zs k (n : Int)) := fun W h => next_any W base g zs k n h hl (by omega) (by omega)
  have hnx2 : ∀ W, Dice W base g zs (stp zs k) → Calls Try.prog 23 #[.pointer (some ⟨g, 0, none⟩), .int .i64 9] W (NextPost W base g zs (stp zs k) 9) := fun W h => next_any W base g zs _ 9 h hl (by decide) (by decide)
  have hA : Below w.heap.size w ((w.alloc (devRow D.size D.maxOpen D.maxActive a n cap)).alloc (devRow 0 0 0 none 0 0)) := ((Below.refl _ _).alloc (Nat.le_refl _) _).alloc (by simp) _
  have ZI := Lib.hid hi
  have N1 := Lib.hid hnx1
  have N2 := Lib.hid hnx2
  have HA := Lib.hid hA
  have HZ := Lib.hid hz
  have D0 := Lib.hid (dice_alloc (dice_alloc hd (devRow D.size D.maxOpen D.maxActive a n cap)) (devRow 0 0 0 none 0 0))
  have hk' : k < stp zs (stp zs k) ∧ stp zs (stp zs k) ≤ zs.length := by
    rw [stp_step hk]
    have := stp_ge zs (k + 1)
    have := stp_end (zs := zs) (k := k + 1) (by omega)
    omega
  have HKK := Lib.hid hk'
  have hee := hEE i hi
  have hkp := (finish_kept hc (k := i) (by omega)).1.valid
  have hop : ∀ W, (∀ b, F b → b < W.heap.size) → ZonesIn W F a n cap D.zones → Calls Try.prog 36 #[devV D a n cap, .int .i64 (i : Int)] W fun e w' => ∃ a' cap', e = .returned (.tuple #[devV (finishR D (i : Int)) a' n cap', .int .i64 (beginE D (i : Int))]) ∧ ZonesIn w' (Plus F W.heap.size) a' n cap' (finishR D (i : Int)).zones ∧ Below W.heap.size W w' := fun W h1 h2 => refFinish_any F D a n cap i W h1 h2 (by omega)
  rw [hee] at hop
  generalize finishR D (i : Int) = R at *
  have HO := Lib.hid hop
  have HC := Lib.hid hcc
  clear hop hnx1 hnx2 hA hd hi hcc hEE hee hk'
  unfold CmdPost
  obtain ⟨size, op, act, Z⟩ := D
  obtain ⟨rs, ro, ra, RZ⟩ := R
  go_enter Try.func26, Try.ntmps26
  go_wp2_with (first
    | (go_at_call 23; ((with_reducible refine (N1.out _ D0.out).mono ?_); rintro e w1 ⟨rfl, hd1, hg1, hs1⟩; rw [ZI.out]; have hx1 := row_grown hg1 (heap_first2 w _ _) (by omega); have hr1 := row_grown hg1 (heap_second w _ _) (by omega); have t1 : w1.heap.size = w.heap.size + 1 + 1 := hs1.trans (by simp only [World.size_alloc]); have hv1 : (w1.alloc (devRow size op act a n cap)).heap[w.heap.size + 1 + 1]? = some (devRow size op act a n cap) := (by rw [← t1]; exact heap_alloc_new w1 (devRow size op act a n cap)); have hx1' := row_al hx1 (devRow size op act a n cap); have hr1' := row_al hr1 (devRow size op act a n cap); obtain ⟨y1, d0, d1, d2, d3⟩ := row4 hx1; have hz1 := ((HZ.out.on (Agree.below HA.out)).on (agree_grown hg1 hFg)).on (Agree.below ((Below.refl _ _).alloc (Nat.le_refl _) (devRow size op act a n cap))); have G1 := grownBy_trans (grownBy_trans (below_grown HA.out g) hg1) (World.grownBy_alloc w1 (devRow size op act a n cap) (some g))))
    | (go_at_call 23; ((with_reducible refine (N2.out _ (dice_alloc hd1 _)).mono ?_); rintro e w2 ⟨rfl, hd2, hg2, hs2⟩; rw [HC.out]; have hx2 := row_grown hg2 hx1' (by omega); have hr2 := row_grown hg2 hr1' (by omega); have hv2 := row_grown hg2 hv1 (by omega); obtain ⟨y2, d0, d1, d2, d3⟩ := row4 hx2; have hz2 := hz1.on (agree_grown hg2 hFg); have t2 : w2.heap.size = w1.heap.size + 1 := hs2.trans (World.size_alloc _ _); have G2 := grownBy_trans G1 hg2; have l0 := (row4 hv2).2.1; have l1 := (row4 hv2).2.2.1; have l2 := (row4 hv2).2.2.2.1; have l3 := (row4 hv2).2.2.2.2))
    | (go_at_call 36; ((with_reducible refine (HO.out w2 (fun b hb => by have := hF b hb; omega) hz2).mono ?_); rintro e w3 ⟨a3, c3, rfl, hz3, hb3⟩; have hx3 := row_on hb3 hx2 (lt_of_block hx2); have hr3 := row_on hb3 hr2 (lt_of_block hr2); have hv3 := row_on hb3 hv2 (lt_of_block hv2); have hd3 := dice_on hd2 hb3 (Nat.le_refl _); have G3 := grownBy_trans G2 (below_grown hb3 g)))
    | ((with_reducible refine Plan.store_lit 24 (.tmp 8) _ (w.heap.size + 1 + 1) ?_ hv3 ?_ ?_ ?_ ?_ ?_ ?_); rotate_left; (· rfl); (· rfl); (· exact dev_info); (· rfl); (· simp [Value.oneCell']); simp only [Act.put]; have hv4 := setRow_heap _ _ _ #[.int .i64 rs, .int .i64 ro, .int .i64 ra, .slice a3 n c3] _ _ hv3; have hx4 := (setRow_other _ (w.heap.size + 1 + 1) w.heap.size #[.int .i64 rs, .int .i64 ro, .int .i64 ra, .slice a3 n c3] (by omega)).trans hx3; have hr4 := (setRow_other _ (w.heap.size + 1 + 1) (w.heap.size + 1) #[.int .i64 rs, .int .i64 ro, .int .i64 ra, .slice a3 n c3] (by omega)).trans hr3; have hz4 := hz3.on (Agree.row (r := (w.heap.size + 1 + 1)) (by rintro (h | h); (· have := hF _ h; omega); (· omega)) #[.int .i64 rs, .int .i64 ro, .int .i64 ra, .slice a3 n c3]); have hd4 := dice_far hd3 (grownBy_setRow w3 (w.heap.size + 1 + 1) #[.int .i64 rs, .int .i64 ro, .int .i64 ra, .slice a3 n c3]) (by omega); have G4 := grownBy_row G3 (x := (w.heap.size + 1 + 1)) (by omega) #[.int .i64 rs, .int .i64 ro, .int .i64 ra, .slice a3 n c3]; generalize w3.setRow (w.heap.size + 1 + 1) #[.int .i64 rs, .int .i64 ro, .int .i64 ra, .slice a3 n c3] = w4 at hv4 hx4 hr4 hz4 hd4 G4 ⊢; clear d0 d1 d2 d3 l0 l1 l2 l3; obtain ⟨y4, d0, d1, d2, d3⟩ := row4 hx4; obtain ⟨v4, l0, l1, l2, l3⟩ := row4 hv4)
    | ((with_reducible refine Plan.store_lit 24 (.tmp 6) _ (w.heap.size + 1) ?_ hr4 ?_ ?_ ?_ ?_ ?_ ?_); rotate_left; (· rfl); (· rfl); (· exact dev_info); (· rfl); (· simp [Value.oneCell']); simp only [Act.put]))
  have hz5 := hz4.on (Agree.row (r := w.heap.size + 1) (by rintro (h | h); (· have := hF _ h; omega); (· omega)) #[.int .i64 rs, .int .i64 ro, .int .i64 ra, .slice a3 n c3])
  exact bodyPost_ret (results_cell_row rfl _ _ _ _ _ _ _ rfl (setRow_heap _ _ _ _ _ _ hr4) Try.underlying24 rfl dev_info) rfl ⟨⟨rs, ro, ra, RZ⟩, a3, c3, _, rfl, hz5.mono (fun _ _ h => h.imp id (fun h => by omega)), hkp, HKK.out.1, HKK.out.2, dice_far hd4 (grownBy_setRow w4 _ _) (by omega), grownBy_row G4 (by omega) _⟩
set_option maxHeartbeats 2000000 in
set_option maxRecDepth 20000 in
theorem cmd_finish_err (F : Nat → Prop) (D : Dev) (a : Option Addr) (n cap base g : Nat) (zs : List Int) (k : Nat) (w : World) (hF : ∀ b, F b → b < w.heap.size) (hFg : ¬ F g) (hz : ZonesIn w F a n cap D.zones) (hn1 : 1 ≤ n) (hn : n ≤ 1000) (hc : checkE D = 0) (hd : Dice w base g zs k) (hl : zs.length ≤ 100000) (hk : k < zs.length) (hcc : nxt zs (stp zs k) 9 = 1) (hEE : ∀ i : Nat, nxt zs k (n : Int) = (i : Int) → beginE D (i : Int) ≠ 0) :
    Calls Try.prog 26 #[.pointer (some ⟨g, 0, none⟩), devV D a n cap, .int .i64 (n : Int)] w (CmdPost w F base g zs k n) := by
  have hgl := dice_lt hd
  have hlen := hz.is.length
  obtain ⟨i, hi, hin⟩ : ∃ i : Nat, nxt zs k (n : Int) = (i : Int) ∧ i < n := by
    have := nxt_range zs k (n : Int) (by omega)
    exact ⟨(nxt zs k (n : Int)).toNat, by omega, by omega⟩
  have hnx1 : ∀ W, Dice W base g zs k → Calls Try.prog 23 #[.pointer (some ⟨g, 0, none⟩), .int .i64 (n : Int)] W (NextPost W base g zs k (n : Int)) := fun W h => next_any W base g zs k n h hl (by omega) (by omega)
  have hnx2 : ∀ W, Dice W base g zs (stp zs k) → Calls Try.prog 23 #[.pointer (some ⟨g, 0, none⟩), .int .i64 9] W (NextPost W base g zs (stp zs k) 9) := fun W h => next_any W base g zs _ 9 h hl (by decide) (by decide)
  have hA : Below w.heap.size w ((w.alloc (devRow D.size D.maxOpen D.maxActive a n cap)).alloc (devRow 0 0 0 none 0 0)) := ((Below.refl _ _).alloc (Nat.le_refl _) _).alloc (by simp) _
  have ZI := Lib.hid hi
  have N1 := Lib.hid hnx1
  have N2 := Lib.hid hnx2
  have HA := Lib.hid hA
  have HZ := Lib.hid hz
  have D0 := Lib.hid (dice_alloc (dice_alloc hd (devRow D.size D.maxOpen D.maxActive a n cap)) (devRow 0 0 0 none 0 0))
  have hk' : k < stp zs (stp zs k) ∧ stp zs (stp zs k) ≤ zs.length := by
    rw [stp_step hk]
    have := stp_ge zs (k + 1)
    have := stp_end (zs := zs) (k := k + 1) (by omega)
    omega
  have HKK := Lib.hid hk'
  have hee := hEE i hi
  have hkp := (finish_kept hc (k := i) (by omega)).1.valid
  have hop : ∀ W, (∀ b, F b → b < W.heap.size) → ZonesIn W F a n cap D.zones → Calls Try.prog 36 #[devV D a n cap, .int .i64 (i : Int)] W fun e w' => ∃ a' cap', e = .returned (.tuple #[devV (finishR D (i : Int)) a' n cap', .int .i64 (beginE D (i : Int))]) ∧ ZonesIn w' (Plus F W.heap.size) a' n cap' (finishR D (i : Int)).zones ∧ Below W.heap.size W w' := fun W h1 h2 => refFinish_any F D a n cap i W h1 h2 (by omega)
  generalize beginE D (i : Int) = E at *
  have he0 : (E != 0) = true := by simp [hee]
  generalize finishR D (i : Int) = R at *
  have HO := Lib.hid hop
  have HC := Lib.hid hcc
  clear hop hnx1 hnx2 hA hd hi hcc hEE hee hk'
  unfold CmdPost
  obtain ⟨size, op, act, Z⟩ := D
  obtain ⟨rs, ro, ra, RZ⟩ := R
  go_enter Try.func26, Try.ntmps26
  go_wp2_with (first
    | (go_at_call 23; ((with_reducible refine (N1.out _ D0.out).mono ?_); rintro e w1 ⟨rfl, hd1, hg1, hs1⟩; rw [ZI.out]; have hx1 := row_grown hg1 (heap_first2 w _ _) (by omega); have hr1 := row_grown hg1 (heap_second w _ _) (by omega); have t1 : w1.heap.size = w.heap.size + 1 + 1 := hs1.trans (by simp only [World.size_alloc]); have hv1 : (w1.alloc (devRow size op act a n cap)).heap[w.heap.size + 1 + 1]? = some (devRow size op act a n cap) := (by rw [← t1]; exact heap_alloc_new w1 (devRow size op act a n cap)); have hx1' := row_al hx1 (devRow size op act a n cap); have hr1' := row_al hr1 (devRow size op act a n cap); obtain ⟨y1, d0, d1, d2, d3⟩ := row4 hx1; have hz1 := ((HZ.out.on (Agree.below HA.out)).on (agree_grown hg1 hFg)).on (Agree.below ((Below.refl _ _).alloc (Nat.le_refl _) (devRow size op act a n cap))); have G1 := grownBy_trans (grownBy_trans (below_grown HA.out g) hg1) (World.grownBy_alloc w1 (devRow size op act a n cap) (some g))))
    | (go_at_call 23; ((with_reducible refine (N2.out _ (dice_alloc hd1 _)).mono ?_); rintro e w2 ⟨rfl, hd2, hg2, hs2⟩; rw [HC.out]; have hx2 := row_grown hg2 hx1' (by omega); have hr2 := row_grown hg2 hr1' (by omega); have hv2 := row_grown hg2 hv1 (by omega); obtain ⟨y2, d0, d1, d2, d3⟩ := row4 hx2; have hz2 := hz1.on (agree_grown hg2 hFg); have t2 : w2.heap.size = w1.heap.size + 1 := hs2.trans (World.size_alloc _ _); have G2 := grownBy_trans G1 hg2; have l0 := (row4 hv2).2.1; have l1 := (row4 hv2).2.2.1; have l2 := (row4 hv2).2.2.2.1; have l3 := (row4 hv2).2.2.2.2))
    | (go_at_call 36; ((with_reducible refine (HO.out w2 (fun b hb => by have := hF b hb; omega) hz2).mono ?_); rintro e w3 ⟨a3, c3, rfl, hz3, hb3⟩; have hx3 := row_on hb3 hx2 (lt_of_block hx2); have hr3 := row_on hb3 hr2 (lt_of_block hr2); have hv3 := row_on hb3 hv2 (lt_of_block hv2); have hd3 := dice_on hd2 hb3 (Nat.le_refl _); have G3 := grownBy_trans G2 (below_grown hb3 g)))
    | ((with_reducible refine Plan.store_lit 24 (.tmp 8) _ (w.heap.size + 1 + 1) ?_ hv3 ?_ ?_ ?_ ?_ ?_ ?_); rotate_left; (· rfl); (· rfl); (· exact dev_info); (· rfl); (· simp [Value.oneCell']); simp only [Act.put]; have hv4 := setRow_heap _ _ _ #[.int .i64 rs, .int .i64 ro, .int .i64 ra, .slice a3 n c3] _ _ hv3; have hx4 := (setRow_other _ (w.heap.size + 1 + 1) w.heap.size #[.int .i64 rs, .int .i64 ro, .int .i64 ra, .slice a3 n c3] (by omega)).trans hx3; have hr4 := (setRow_other _ (w.heap.size + 1 + 1) (w.heap.size + 1) #[.int .i64 rs, .int .i64 ro, .int .i64 ra, .slice a3 n c3] (by omega)).trans hr3; have hz4 := hz3.on (Agree.row (r := (w.heap.size + 1 + 1)) (by rintro (h | h); (· have := hF _ h; omega); (· omega)) #[.int .i64 rs, .int .i64 ro, .int .i64 ra, .slice a3 n c3]); have hd4 := dice_far hd3 (grownBy_setRow w3 (w.heap.size + 1 + 1) #[.int .i64 rs, .int .i64 ro, .int .i64 ra, .slice a3 n c3]) (by omega); have G4 := grownBy_row G3 (x := (w.heap.size + 1 + 1)) (by omega) #[.int .i64 rs, .int .i64 ro, .int .i64 ra, .slice a3 n c3]; generalize w3.setRow (w.heap.size + 1 + 1) #[.int .i64 rs, .int .i64 ro, .int .i64 ra, .slice a3 n c3] = w4 at hv4 hx4 hr4 hz4 hd4 G4 ⊢; clear d0 d1 d2 d3 l0 l1 l2 l3; obtain ⟨y4, d0, d1, d2, d3⟩ := row4 hx4; obtain ⟨v4, l0, l1, l2, l3⟩ := row4 hv4)
    | ((with_reducible refine Plan.store_lit 24 (.tmp 6) _ (w.heap.size + 1) ?_ hr4 ?_ ?_ ?_ ?_ ?_ ?_); rotate_left; (· rfl); (· rfl); (· exact dev_info); (· rfl); (· simp [Value.oneCell']); simp only [Act.put]))
  have hzf := (((HZ.out.on (Agree.below HA.out)).mono (G := fun b => F b) (fun _ _ h => h)))
  have hzw : ZonesIn w4 F a n cap Z := HZ.out.on (agree_grown G4 hFg)
  have hz5 := hzw.on (Agree.row (r := w.heap.size + 1) (fun h => by have := hF _ h; omega) #[.int .i64 size, .int .i64 op, .int .i64 act, .slice a n cap])
  exact bodyPost_ret (results_cell_row rfl _ _ _ _ _ _ _ rfl (setRow_heap _ _ _ _ _ _ hr4) Try.underlying24 rfl dev_info) rfl ⟨⟨size, op, act, Z⟩, a, cap, _, rfl, hz5.mono (fun _ _ h => .inl h), hc, HKK.out.1, HKK.out.2, dice_far hd4 (grownBy_setRow w4 _ _) (by omega), grownBy_row G4 (by omega) _⟩
set_option maxHeartbeats 2000000 in
set_option maxRecDepth 20000 in
theorem cmd_open (F : Nat → Prop) (D : Dev) (a : Option Addr) (n cap base g : Nat) (zs : List Int) (k : Nat) (w : World) (hF : ∀ b, F b → b < w.heap.size) (hFg : ¬ F g) (hz : ZonesIn w F a n cap D.zones) (hn1 : 1 ≤ n) (hn : n ≤ 1000) (hc : checkE D = 0) (hd : Dice w base g zs k) (hl : zs.length ≤ 100000) (hk : k < zs.length) (hcc : nxt zs (stp zs k) 9 = 2) (hEE : ∀ i : Nat, nxt zs k (n : Int) = (i : Int) → openE D (i : Int) = 0) :
    Calls Try.prog 26 #[.pointer (some ⟨g, 0, none⟩), devV D a n cap, .int .i64 (n : Int)] w (CmdPost w F base g zs k n) := by
  have hgl := dice_lt hd
  have hlen := hz.is.length
  obtain ⟨i, hi, hin⟩ : ∃ i : Nat, nxt zs k (n : Int) = (i : Int) ∧ i < n := by
    have := nxt_range zs k (n : Int) (by omega)
    exact ⟨(nxt zs k (n : Int)).toNat, by omega, by omega⟩
  have hnx1 : ∀ W, Dice W base g zs k → Calls Try.prog 23 #[.pointer (some ⟨g, 0, none⟩), .int .i64 (n : Int)] W (NextPost W base g zs k (n : Int)) := fun W h => next_any W base g zs k n h hl (by omega) (by omega)
  have hnx2 : ∀ W, Dice W base g zs (stp zs k) → Calls Try.prog 23 #[.pointer (some ⟨g, 0, none⟩), .int .i64 9] W (NextPost W base g zs (stp zs k) 9) := fun W h => next_any W base g zs _ 9 h hl (by decide) (by decide)
  have hA : Below w.heap.size w ((w.alloc (devRow D.size D.maxOpen D.maxActive a n cap)).alloc (devRow 0 0 0 none 0 0)) := ((Below.refl _ _).alloc (Nat.le_refl _) _).alloc (by simp) _
  have ZI := Lib.hid hi
  have N1 := Lib.hid hnx1
  have N2 := Lib.hid hnx2
  have HA := Lib.hid hA
  have HZ := Lib.hid hz
  have D0 := Lib.hid (dice_alloc (dice_alloc hd (devRow D.size D.maxOpen D.maxActive a n cap)) (devRow 0 0 0 none 0 0))
  have hk' : k < stp zs (stp zs k) ∧ stp zs (stp zs k) ≤ zs.length := by
    rw [stp_step hk]
    have := stp_ge zs (k + 1)
    have := stp_end (zs := zs) (k := k + 1) (by omega)
    omega
  have HKK := Lib.hid hk'
  have hee := hEE i hi
  have hkp := (open_kept hc (k := i) (by omega)).1.valid
  have hop : ∀ W, (∀ b, F b → b < W.heap.size) → ZonesIn W F a n cap D.zones → Calls Try.prog 37 #[devV D a n cap, .int .i64 (i : Int)] W fun e w' => ∃ a' cap', e = .returned (.tuple #[devV (openR D (i : Int)) a' n cap', .int .i64 (openE D (i : Int))]) ∧ ZonesIn w' (Plus F W.heap.size) a' n cap' (openR D (i : Int)).zones ∧ Below W.heap.size W w' := fun W h1 h2 => refOpen_any F D a n cap i W h1 h2 (by omega)
  rw [hee] at hop
  generalize openR D (i : Int) = R at *
  have HO := Lib.hid hop
  have HC := Lib.hid hcc
  clear hop hnx1 hnx2 hA hd hi hcc hEE hee hk'
  unfold CmdPost
  obtain ⟨size, op, act, Z⟩ := D
  obtain ⟨rs, ro, ra, RZ⟩ := R
  go_enter Try.func26, Try.ntmps26
  go_wp2_with (first
    | (go_at_call 23; ((with_reducible refine (N1.out _ D0.out).mono ?_); rintro e w1 ⟨rfl, hd1, hg1, hs1⟩; rw [ZI.out]; have hx1 := row_grown hg1 (heap_first2 w _ _) (by omega); have hr1 := row_grown hg1 (heap_second w _ _) (by omega); have t1 : w1.heap.size = w.heap.size + 1 + 1 := hs1.trans (by simp only [World.size_alloc]); have hv1 : (w1.alloc (devRow size op act a n cap)).heap[w.heap.size + 1 + 1]? = some (devRow size op act a n cap) := (by rw [← t1]; exact heap_alloc_new w1 (devRow size op act a n cap)); have hx1' := row_al hx1 (devRow size op act a n cap); have hr1' := row_al hr1 (devRow size op act a n cap); obtain ⟨y1, d0, d1, d2, d3⟩ := row4 hx1; have hz1 := ((HZ.out.on (Agree.below HA.out)).on (agree_grown hg1 hFg)).on (Agree.below ((Below.refl _ _).alloc (Nat.le_refl _) (devRow size op act a n cap))); have G1 := grownBy_trans (grownBy_trans (below_grown HA.out g) hg1) (World.grownBy_alloc w1 (devRow size op act a n cap) (some g))))
    | (go_at_call 23; ((with_reducible refine (N2.out _ (dice_alloc hd1 _)).mono ?_); rintro e w2 ⟨rfl, hd2, hg2, hs2⟩; rw [HC.out]; have hx2 := row_grown hg2 hx1' (by omega); have hr2 := row_grown hg2 hr1' (by omega); have hv2 := row_grown hg2 hv1 (by omega); obtain ⟨y2, d0, d1, d2, d3⟩ := row4 hx2; have hz2 := hz1.on (agree_grown hg2 hFg); have t2 : w2.heap.size = w1.heap.size + 1 := hs2.trans (World.size_alloc _ _); have G2 := grownBy_trans G1 hg2; have l0 := (row4 hv2).2.1; have l1 := (row4 hv2).2.2.1; have l2 := (row4 hv2).2.2.2.1; have l3 := (row4 hv2).2.2.2.2))
    | (go_at_call 37; ((with_reducible refine (HO.out w2 (fun b hb => by have := hF b hb; omega) hz2).mono ?_); rintro e w3 ⟨a3, c3, rfl, hz3, hb3⟩; have hx3 := row_on hb3 hx2 (lt_of_block hx2); have hr3 := row_on hb3 hr2 (lt_of_block hr2); have hv3 := row_on hb3 hv2 (lt_of_block hv2); have hd3 := dice_on hd2 hb3 (Nat.le_refl _); have G3 := grownBy_trans G2 (below_grown hb3 g)))
    | ((with_reducible refine Plan.store_lit 24 (.tmp 8) _ (w.heap.size + 1 + 1) ?_ hv3 ?_ ?_ ?_ ?_ ?_ ?_); rotate_left; (· rfl); (· rfl); (· exact dev_info); (· rfl); (· simp [Value.oneCell']); simp only [Act.put]; have hv4 := setRow_heap _ _ _ #[.int .i64 rs, .int .i64 ro, .int .i64 ra, .slice a3 n c3] _ _ hv3; have hx4 := (setRow_other _ (w.heap.size + 1 + 1) w.heap.size #[.int .i64 rs, .int .i64 ro, .int .i64 ra, .slice a3 n c3] (by omega)).trans hx3; have hr4 := (setRow_other _ (w.heap.size + 1 + 1) (w.heap.size + 1) #[.int .i64 rs, .int .i64 ro, .int .i64 ra, .slice a3 n c3] (by omega)).trans hr3; have hz4 := hz3.on (Agree.row (r := (w.heap.size + 1 + 1)) (by rintro (h | h); (· have := hF _ h; omega); (· omega)) #[.int .i64 rs, .int .i64 ro, .int .i64 ra, .slice a3 n c3]); have hd4 := dice_far hd3 (grownBy_setRow w3 (w.heap.size + 1 + 1) #[.int .i64 rs, .int .i64 ro, .int .i64 ra, .slice a3 n c3]) (by omega); have G4 := grownBy_row G3 (x := (w.heap.size + 1 + 1)) (by omega) #[.int .i64 rs, .int .i64 ro, .int .i64 ra, .slice a3 n c3]; generalize w3.setRow (w.heap.size + 1 + 1) #[.int .i64 rs, .int .i64 ro, .int .i64 ra, .slice a3 n c3] = w4 at hv4 hx4 hr4 hz4 hd4 G4 ⊢; clear d0 d1 d2 d3 l0 l1 l2 l3; obtain ⟨y4, d0, d1, d2, d3⟩ := row4 hx4; obtain ⟨v4, l0, l1, l2, l3⟩ := row4 hv4)
    | ((with_reducible refine Plan.store_lit 24 (.tmp 6) _ (w.heap.size + 1) ?_ hr4 ?_ ?_ ?_ ?_ ?_ ?_); rotate_left; (· rfl); (· rfl); (· exact dev_info); (· rfl); (· simp [Value.oneCell']); simp only [Act.put]))
  have hz5 := hz4.on (Agree.row (r := w.heap.size + 1) (by rintro (h | h); (· have := hF _ h; omega); (· omega)) #[.int .i64 rs, .int .i64 ro, .int .i64 ra, .slice a3 n c3])
  exact bodyPost_ret (results_cell_row rfl _ _ _ _ _ _ _ rfl (setRow_heap _ _ _ _ _ _ hr4) Try.underlying24 rfl dev_info) rfl ⟨⟨rs, ro, ra, RZ⟩, a3, c3, _, rfl, hz5.mono (fun _ _ h => h.imp id (fun h => by omega)), hkp, HKK.out.1, HKK.out.2, dice_far hd4 (grownBy_setRow w4 _ _) (by omega), grownBy_row G4 (by omega) _⟩
set_option maxHeartbeats 2000000 in
set_option maxRecDepth 20000 in
theorem cmd_open_err (F : Nat → Prop) (D : Dev) (a : Option Addr) (n cap base g : Nat) (zs : List Int) (k : Nat) (w : World) (hF : ∀ b, F b → b < w.heap.size) (hFg : ¬ F g) (hz : ZonesIn w F a n cap D.zones) (hn1 : 1 ≤ n) (hn : n ≤ 1000) (hc : checkE D = 0) (hd : Dice w base g zs k) (hl : zs.length ≤ 100000) (hk : k < zs.length) (hcc : nxt zs (stp zs k) 9 = 2) (hEE : ∀ i : Nat, nxt zs k (n : Int) = (i : Int) → openE D (i : Int) ≠ 0) :
    Calls Try.prog 26 #[.pointer (some ⟨g, 0, none⟩), devV D a n cap, .int .i64 (n : Int)] w (CmdPost w F base g zs k n) := by
  have hgl := dice_lt hd
  have hlen := hz.is.length
  obtain ⟨i, hi, hin⟩ : ∃ i : Nat, nxt zs k (n : Int) = (i : Int) ∧ i < n := by
    have := nxt_range zs k (n : Int) (by omega)
    exact ⟨(nxt zs k (n : Int)).toNat, by omega, by omega⟩
  have hnx1 : ∀ W, Dice W base g zs k → Calls Try.prog 23 #[.pointer (some ⟨g, 0, none⟩), .int .i64 (n : Int)] W (NextPost W base g zs k (n : Int)) := fun W h => next_any W base g zs k n h hl (by omega) (by omega)
  have hnx2 : ∀ W, Dice W base g zs (stp zs k) → Calls Try.prog 23 #[.pointer (some ⟨g, 0, none⟩), .int .i64 9] W (NextPost W base g zs (stp zs k) 9) := fun W h => next_any W base g zs _ 9 h hl (by decide) (by decide)
  have hA : Below w.heap.size w ((w.alloc (devRow D.size D.maxOpen D.maxActive a n cap)).alloc (devRow 0 0 0 none 0 0)) := ((Below.refl _ _).alloc (Nat.le_refl _) _).alloc (by simp) _
  have ZI := Lib.hid hi
  have N1 := Lib.hid hnx1
  have N2 := Lib.hid hnx2
  have HA := Lib.hid hA
  have HZ := Lib.hid hz
  have D0 := Lib.hid (dice_alloc (dice_alloc hd (devRow D.size D.maxOpen D.maxActive a n cap)) (devRow 0 0 0 none 0 0))
  have hk' : k < stp zs (stp zs k) ∧ stp zs (stp zs k) ≤ zs.length := by
    rw [stp_step hk]
    have := stp_ge zs (k + 1)
    have := stp_end (zs := zs) (k := k + 1) (by omega)
    omega
  have HKK := Lib.hid hk'
  have hee := hEE i hi
  have hkp := (open_kept hc (k := i) (by omega)).1.valid
  have hop : ∀ W, (∀ b, F b → b < W.heap.size) → ZonesIn W F a n cap D.zones → Calls Try.prog 37 #[devV D a n cap, .int .i64 (i : Int)] W fun e w' => ∃ a' cap', e = .returned (.tuple #[devV (openR D (i : Int)) a' n cap', .int .i64 (openE D (i : Int))]) ∧ ZonesIn w' (Plus F W.heap.size) a' n cap' (openR D (i : Int)).zones ∧ Below W.heap.size W w' := fun W h1 h2 => refOpen_any F D a n cap i W h1 h2 (by omega)
  generalize openE D (i : Int) = E at *
  have he0 : (E != 0) = true := by simp [hee]
  generalize openR D (i : Int) = R at *
  have HO := Lib.hid hop
  have HC := Lib.hid hcc
  clear hop hnx1 hnx2 hA hd hi hcc hEE hee hk'
  unfold CmdPost
  obtain ⟨size, op, act, Z⟩ := D
  obtain ⟨rs, ro, ra, RZ⟩ := R
  go_enter Try.func26, Try.ntmps26
  go_wp2_with (first
    | (go_at_call 23; ((with_reducible refine (N1.out _ D0.out).mono ?_); rintro e w1 ⟨rfl, hd1, hg1, hs1⟩; rw [ZI.out]; have hx1 := row_grown hg1 (heap_first2 w _ _) (by omega); have hr1 := row_grown hg1 (heap_second w _ _) (by omega); have t1 : w1.heap.size = w.heap.size + 1 + 1 := hs1.trans (by simp only [World.size_alloc]); have hv1 : (w1.alloc (devRow size op act a n cap)).heap[w.heap.size + 1 + 1]? = some (devRow size op act a n cap) := (by rw [← t1]; exact heap_alloc_new w1 (devRow size op act a n cap)); have hx1' := row_al hx1 (devRow size op act a n cap); have hr1' := row_al hr1 (devRow size op act a n cap); obtain ⟨y1, d0, d1, d2, d3⟩ := row4 hx1; have hz1 := ((HZ.out.on (Agree.below HA.out)).on (agree_grown hg1 hFg)).on (Agree.below ((Below.refl _ _).alloc (Nat.le_refl _) (devRow size op act a n cap))); have G1 := grownBy_trans (grownBy_trans (below_grown HA.out g) hg1) (World.grownBy_alloc w1 (devRow size op act a n cap) (some g))))
    | (go_at_call 23; ((with_reducible refine (N2.out _ (dice_alloc hd1 _)).mono ?_); rintro e w2 ⟨rfl, hd2, hg2, hs2⟩; rw [HC.out]; have hx2 := row_grown hg2 hx1' (by omega); have hr2 := row_grown hg2 hr1' (by omega); have hv2 := row_grown hg2 hv1 (by omega); obtain ⟨y2, d0, d1, d2, d3⟩ := row4 hx2; have hz2 := hz1.on (agree_grown hg2 hFg); have t2 : w2.heap.size = w1.heap.size + 1 := hs2.trans (World.size_alloc _ _); have G2 := grownBy_trans G1 hg2; have l0 := (row4 hv2).2.1; have l1 := (row4 hv2).2.2.1; have l2 := (row4 hv2).2.2.2.1; have l3 := (row4 hv2).2.2.2.2))
    | (go_at_call 37; ((with_reducible refine (HO.out w2 (fun b hb => by have := hF b hb; omega) hz2).mono ?_); rintro e w3 ⟨a3, c3, rfl, hz3, hb3⟩; have hx3 := row_on hb3 hx2 (lt_of_block hx2); have hr3 := row_on hb3 hr2 (lt_of_block hr2); have hv3 := row_on hb3 hv2 (lt_of_block hv2); have hd3 := dice_on hd2 hb3 (Nat.le_refl _); have G3 := grownBy_trans G2 (below_grown hb3 g)))
    | ((with_reducible refine Plan.store_lit 24 (.tmp 8) _ (w.heap.size + 1 + 1) ?_ hv3 ?_ ?_ ?_ ?_ ?_ ?_); rotate_left; (· rfl); (· rfl); (· exact dev_info); (· rfl); (· simp [Value.oneCell']); simp only [Act.put]; have hv4 := setRow_heap _ _ _ #[.int .i64 rs, .int .i64 ro, .int .i64 ra, .slice a3 n c3] _ _ hv3; have hx4 := (setRow_other _ (w.heap.size + 1 + 1) w.heap.size #[.int .i64 rs, .int .i64 ro, .int .i64 ra, .slice a3 n c3] (by omega)).trans hx3; have hr4 := (setRow_other _ (w.heap.size + 1 + 1) (w.heap.size + 1) #[.int .i64 rs, .int .i64 ro, .int .i64 ra, .slice a3 n c3] (by omega)).trans hr3; have hz4 := hz3.on (Agree.row (r := (w.heap.size + 1 + 1)) (by rintro (h | h); (· have := hF _ h; omega); (· omega)) #[.int .i64 rs, .int .i64 ro, .int .i64 ra, .slice a3 n c3]); have hd4 := dice_far hd3 (grownBy_setRow w3 (w.heap.size + 1 + 1) #[.int .i64 rs, .int .i64 ro, .int .i64 ra, .slice a3 n c3]) (by omega); have G4 := grownBy_row G3 (x := (w.heap.size + 1 + 1)) (by omega) #[.int .i64 rs, .int .i64 ro, .int .i64 ra, .slice a3 n c3]; generalize w3.setRow (w.heap.size + 1 + 1) #[.int .i64 rs, .int .i64 ro, .int .i64 ra, .slice a3 n c3] = w4 at hv4 hx4 hr4 hz4 hd4 G4 ⊢; clear d0 d1 d2 d3 l0 l1 l2 l3; obtain ⟨y4, d0, d1, d2, d3⟩ := row4 hx4; obtain ⟨v4, l0, l1, l2, l3⟩ := row4 hv4)
    | ((with_reducible refine Plan.store_lit 24 (.tmp 6) _ (w.heap.size + 1) ?_ hr4 ?_ ?_ ?_ ?_ ?_ ?_); rotate_left; (· rfl); (· rfl); (· exact dev_info); (· rfl); (· simp [Value.oneCell']); simp only [Act.put]))
  have hzf := (((HZ.out.on (Agree.below HA.out)).mono (G := fun b => F b) (fun _ _ h => h)))
  have hzw : ZonesIn w4 F a n cap Z := HZ.out.on (agree_grown G4 hFg)
  have hz5 := hzw.on (Agree.row (r := w.heap.size + 1) (fun h => by have := hF _ h; omega) #[.int .i64 size, .int .i64 op, .int .i64 act, .slice a n cap])
  exact bodyPost_ret (results_cell_row rfl _ _ _ _ _ _ _ rfl (setRow_heap _ _ _ _ _ _ hr4) Try.underlying24 rfl dev_info) rfl ⟨⟨size, op, act, Z⟩, a, cap, _, rfl, hz5.mono (fun _ _ h => .inl h), hc, HKK.out.1, HKK.out.2, dice_far hd4 (grownBy_setRow w4 _ _) (by omega), grownBy_row G4 (by omega) _⟩
set_option maxHeartbeats 2000000 in
set_option maxRecDepth 20000 in
theorem cmd_close (F : Nat → Prop) (D : Dev) (a : Option Addr) (n cap base g : Nat) (zs : List Int) (k : Nat) (w : World) (hF : ∀ b, F b → b < w.heap.size) (hFg : ¬ F g) (hz : ZonesIn w F a n cap D.zones) (hn1 : 1 ≤ n) (hn : n ≤ 1000) (hc : checkE D = 0) (hd : Dice w base g zs k) (hl : zs.length ≤ 100000) (hk : k < zs.length) (hcc : nxt zs (stp zs k) 9 = 3) (hEE : ∀ i : Nat, nxt zs k (n : Int) = (i : Int) → closeE D (i : Int) = 0) :
    Calls Try.prog 26 #[.pointer (some ⟨g, 0, none⟩), devV D a n cap, .int .i64 (n : Int)] w (CmdPost w F base g zs k n) := by
  have hgl := dice_lt hd
  have hlen := hz.is.length
  obtain ⟨i, hi, hin⟩ : ∃ i : Nat, nxt zs k (n : Int) = (i : Int) ∧ i < n := by
    have := nxt_range zs k (n : Int) (by omega)
    exact ⟨(nxt zs k (n : Int)).toNat, by omega, by omega⟩
  have hnx1 : ∀ W, Dice W base g zs k → Calls Try.prog 23 #[.pointer (some ⟨g, 0, none⟩), .int .i64 (n : Int)] W (NextPost W base g zs k (n : Int)) := fun W h => next_any W base g zs k n h hl (by omega) (by omega)
  have hnx2 : ∀ W, Dice W base g zs (stp zs k) → Calls Try.prog 23 #[.pointer (some ⟨g, 0, none⟩), .int .i64 9] W (NextPost W base g zs (stp zs k) 9) := fun W h => next_any W base g zs _ 9 h hl (by decide) (by decide)
  have hA : Below w.heap.size w ((w.alloc (devRow D.size D.maxOpen D.maxActive a n cap)).alloc (devRow 0 0 0 none 0 0)) := ((Below.refl _ _).alloc (Nat.le_refl _) _).alloc (by simp) _
  have ZI := Lib.hid hi
  have N1 := Lib.hid hnx1
  have N2 := Lib.hid hnx2
  have HA := Lib.hid hA
  have HZ := Lib.hid hz
  have D0 := Lib.hid (dice_alloc (dice_alloc hd (devRow D.size D.maxOpen D.maxActive a n cap)) (devRow 0 0 0 none 0 0))
  have hk' : k < stp zs (stp zs k) ∧ stp zs (stp zs k) ≤ zs.length := by
    rw [stp_step hk]
    have := stp_ge zs (k + 1)
    have := stp_end (zs := zs) (k := k + 1) (by omega)
    omega
  have HKK := Lib.hid hk'
  have hee := hEE i hi
  have hkp := (close_kept hc (k := i) (by omega)).1.valid
  have hop : ∀ W, (∀ b, F b → b < W.heap.size) → ZonesIn W F a n cap D.zones → Calls Try.prog 38 #[devV D a n cap, .int .i64 (i : Int)] W fun e w' => ∃ a' cap', e = .returned (.tuple #[devV (closeR D (i : Int)) a' n cap', .int .i64 (closeE D (i : Int))]) ∧ ZonesIn w' (Plus F W.heap.size) a' n cap' (closeR D (i : Int)).zones ∧ Below W.heap.size W w' := fun W h1 h2 => refClose_any F D a n cap i W h1 h2 (by omega)
  rw [hee] at hop
  generalize closeR D (i : Int) = R at *
  have HO := Lib.hid hop
  have HC := Lib.hid hcc
  clear hop hnx1 hnx2 hA hd hi hcc hEE hee hk'
  unfold CmdPost
  obtain ⟨size, op, act, Z⟩ := D
  obtain ⟨rs, ro, ra, RZ⟩ := R
  go_enter Try.func26, Try.ntmps26
  go_wp2_with (first
    | (go_at_call 23; ((with_reducible refine (N1.out _ D0.out).mono ?_); rintro e w1 ⟨rfl, hd1, hg1, hs1⟩; rw [ZI.out]; have hx1 := row_grown hg1 (heap_first2 w _ _) (by omega); have hr1 := row_grown hg1 (heap_second w _ _) (by omega); have t1 : w1.heap.size = w.heap.size + 1 + 1 := hs1.trans (by simp only [World.size_alloc]); have hv1 : (w1.alloc (devRow size op act a n cap)).heap[w.heap.size + 1 + 1]? = some (devRow size op act a n cap) := (by rw [← t1]; exact heap_alloc_new w1 (devRow size op act a n cap)); have hx1' := row_al hx1 (devRow size op act a n cap); have hr1' := row_al hr1 (devRow size op act a n cap); obtain ⟨y1, d0, d1, d2, d3⟩ := row4 hx1; have hz1 := ((HZ.out.on (Agree.below HA.out)).on (agree_grown hg1 hFg)).on (Agree.below ((Below.refl _ _).alloc (Nat.le_refl _) (devRow size op act a n cap))); have G1 := grownBy_trans (grownBy_trans (below_grown HA.out g) hg1) (World.grownBy_alloc w1 (devRow size op act a n cap) (some g))))
    | (go_at_call 23; ((with_reducible refine (N2.out _ (dice_alloc hd1 _)).mono ?_); rintro e w2 ⟨rfl, hd2, hg2, hs2⟩; rw [HC.out]; have hx2 := row_grown hg2 hx1' (by omega); have hr2 := row_grown hg2 hr1' (by omega); have hv2 := row_grown hg2 hv1 (by omega); obtain ⟨y2, d0, d1, d2, d3⟩ := row4 hx2; have hz2 := hz1.on (agree_grown hg2 hFg); have t2 : w2.heap.size = w1.heap.size + 1 := hs2.trans (World.size_alloc _ _); have G2 := grownBy_trans G1 hg2; have l0 := (row4 hv2).2.1; have l1 := (row4 hv2).2.2.1; have l2 := (row4 hv2).2.2.2.1; have l3 := (row4 hv2).2.2.2.2))
    | (go_at_call 38; ((with_reducible refine (HO.out w2 (fun b hb => by have := hF b hb; omega) hz2).mono ?_); rintro e w3 ⟨a3, c3, rfl, hz3, hb3⟩; have hx3 := row_on hb3 hx2 (lt_of_block hx2); have hr3 := row_on hb3 hr2 (lt_of_block hr2); have hv3 := row_on hb3 hv2 (lt_of_block hv2); have hd3 := dice_on hd2 hb3 (Nat.le_refl _); have G3 := grownBy_trans G2 (below_grown hb3 g)))
    | ((with_reducible refine Plan.store_lit 24 (.tmp 8) _ (w.heap.size + 1 + 1) ?_ hv3 ?_ ?_ ?_ ?_ ?_ ?_); rotate_left; (· rfl); (· rfl); (· exact dev_info); (· rfl); (· simp [Value.oneCell']); simp only [Act.put]; have hv4 := setRow_heap _ _ _ #[.int .i64 rs, .int .i64 ro, .int .i64 ra, .slice a3 n c3] _ _ hv3; have hx4 := (setRow_other _ (w.heap.size + 1 + 1) w.heap.size #[.int .i64 rs, .int .i64 ro, .int .i64 ra, .slice a3 n c3] (by omega)).trans hx3; have hr4 := (setRow_other _ (w.heap.size + 1 + 1) (w.heap.size + 1) #[.int .i64 rs, .int .i64 ro, .int .i64 ra, .slice a3 n c3] (by omega)).trans hr3; have hz4 := hz3.on (Agree.row (r := (w.heap.size + 1 + 1)) (by rintro (h | h); (· have := hF _ h; omega); (· omega)) #[.int .i64 rs, .int .i64 ro, .int .i64 ra, .slice a3 n c3]); have hd4 := dice_far hd3 (grownBy_setRow w3 (w.heap.size + 1 + 1) #[.int .i64 rs, .int .i64 ro, .int .i64 ra, .slice a3 n c3]) (by omega); have G4 := grownBy_row G3 (x := (w.heap.size + 1 + 1)) (by omega) #[.int .i64 rs, .int .i64 ro, .int .i64 ra, .slice a3 n c3]; generalize w3.setRow (w.heap.size + 1 + 1) #[.int .i64 rs, .int .i64 ro, .int .i64 ra, .slice a3 n c3] = w4 at hv4 hx4 hr4 hz4 hd4 G4 ⊢; clear d0 d1 d2 d3 l0 l1 l2 l3; obtain ⟨y4, d0, d1, d2, d3⟩ := row4 hx4; obtain ⟨v4, l0, l1, l2, l3⟩ := row4 hv4)
    | ((with_reducible refine Plan.store_lit 24 (.tmp 6) _ (w.heap.size + 1) ?_ hr4 ?_ ?_ ?_ ?_ ?_ ?_); rotate_left; (· rfl); (· rfl); (· exact dev_info); (· rfl); (· simp [Value.oneCell']); simp only [Act.put]))
  have hz5 := hz4.on (Agree.row (r := w.heap.size + 1) (by rintro (h | h); (· have := hF _ h; omega); (· omega)) #[.int .i64 rs, .int .i64 ro, .int .i64 ra, .slice a3 n c3])
  exact bodyPost_ret (results_cell_row rfl _ _ _ _ _ _ _ rfl (setRow_heap _ _ _ _ _ _ hr4) Try.underlying24 rfl dev_info) rfl ⟨⟨rs, ro, ra, RZ⟩, a3, c3, _, rfl, hz5.mono (fun _ _ h => h.imp id (fun h => by omega)), hkp, HKK.out.1, HKK.out.2, dice_far hd4 (grownBy_setRow w4 _ _) (by omega), grownBy_row G4 (by omega) _⟩
set_option maxHeartbeats 2000000 in
set_option maxRecDepth 20000 in
theorem cmd_close_err (F : Nat → Prop) (D : Dev) (a : Option Addr) (n cap base g : Nat) (zs : List Int) (k : Nat) (w : World) (hF : ∀ b, F b → b < w.heap.size) (hFg : ¬ F g) (hz : ZonesIn w F a n cap D.zones) (hn1 : 1 ≤ n) (hn : n ≤ 1000) (hc : checkE D = 0) (hd : Dice w base g zs k) (hl : zs.length ≤ 100000) (hk : k < zs.length) (hcc : nxt zs (stp zs k) 9 = 3) (hEE : ∀ i : Nat, nxt zs k (n : Int) = (i : Int) → closeE D (i : Int) ≠ 0) :
    Calls Try.prog 26 #[.pointer (some ⟨g, 0, none⟩), devV D a n cap, .int .i64 (n : Int)] w (CmdPost w F base g zs k n) := by
  have hgl := dice_lt hd
  have hlen := hz.is.length
  obtain ⟨i, hi, hin⟩ : ∃ i : Nat, nxt zs k (n : Int) = (i : Int) ∧ i < n := by
    have := nxt_range zs k (n : Int) (by omega)
    exact ⟨(nxt zs k (n : Int)).toNat, by omega, by omega⟩
  have hnx1 : ∀ W, Dice W base g zs k → Calls Try.prog 23 #[.pointer (some ⟨g, 0, none⟩), .int .i64 (n : Int)] W (NextPost W base g zs k (n : Int)) := fun W h => next_any W base g zs k n h hl (by omega) (by omega)
  have hnx2 : ∀ W, Dice W base g zs (stp zs k) → Calls Try.prog 23 #[.pointer (some ⟨g, 0, none⟩), .int .i64 9] W (NextPost W base g zs (stp zs k) 9) := fun W h => next_any W base g zs _ 9 h hl (by decide) (by decide)
  have hA : Below w.heap.size w ((w.alloc (devRow D.size D.maxOpen D.maxActive a n cap)).alloc (devRow 0 0 0 none 0 0)) := ((Below.refl _ _).alloc (Nat.le_refl _) _).alloc (by simp) _
  have ZI := Lib.hid hi
  have N1 := Lib.hid hnx1
  have N2 := Lib.hid hnx2
  have HA := Lib.hid hA
  have HZ := Lib.hid hz
  have D0 := Lib.hid (dice_alloc (dice_alloc hd (devRow D.size D.maxOpen D.maxActive a n cap)) (devRow 0 0 0 none 0 0))
  have hk' : k < stp zs (stp zs k) ∧ stp zs (stp zs k) ≤ zs.length := by
    rw [stp_step hk]
    have := stp_ge zs (k + 1)
    have := stp_end (zs := zs) (k := k + 1) (by omega)
    omega
  have HKK := Lib.hid hk'
  have hee := hEE i hi
  have hkp := (close_kept hc (k := i) (by omega)).1.valid
  have hop : ∀ W, (∀ b, F b → b < W.heap.size) → ZonesIn W F a n cap D.zones → Calls Try.prog 38 #[devV D a n cap, .int .i64 (i : Int)] W fun e w' => ∃ a' cap', e = .returned (.tuple #[devV (closeR D (i : Int)) a' n cap', .int .i64 (closeE D (i : Int))]) ∧ ZonesIn w' (Plus F W.heap.size) a' n cap' (closeR D (i : Int)).zones ∧ Below W.heap.size W w' := fun W h1 h2 => refClose_any F D a n cap i W h1 h2 (by omega)
  generalize closeE D (i : Int) = E at *
  have he0 : (E != 0) = true := by simp [hee]
  generalize closeR D (i : Int) = R at *
  have HO := Lib.hid hop
  have HC := Lib.hid hcc
  clear hop hnx1 hnx2 hA hd hi hcc hEE hee hk'
  unfold CmdPost
  obtain ⟨size, op, act, Z⟩ := D
  obtain ⟨rs, ro, ra, RZ⟩ := R
  go_enter Try.func26, Try.ntmps26
  go_wp2_with (first
    | (go_at_call 23; ((with_reducible refine (N1.out _ D0.out).mono ?_); rintro e w1 ⟨rfl, hd1, hg1, hs1⟩; rw [ZI.out]; have hx1 := row_grown hg1 (heap_first2 w _ _) (by omega); have hr1 := row_grown hg1 (heap_second w _ _) (by omega); have t1 : w1.heap.size = w.heap.size + 1 + 1 := hs1.trans (by simp only [World.size_alloc]); have hv1 : (w1.alloc (devRow size op act a n cap)).heap[w.heap.size + 1 + 1]? = some (devRow size op act a n cap) := (by rw [← t1]; exact heap_alloc_new w1 (devRow size op act a n cap)); have hx1' := row_al hx1 (devRow size op act a n cap); have hr1' := row_al hr1 (devRow size op act a n cap); obtain ⟨y1, d0, d1, d2, d3⟩ := row4 hx1; have hz1 := ((HZ.out.on (Agree.below HA.out)).on (agree_grown hg1 hFg)).on (Agree.below ((Below.refl _ _).alloc (Nat.le_refl _) (devRow size op act a n cap))); have G1 := grownBy_trans (grownBy_trans (below_grown HA.out g) hg1) (World.grownBy_alloc w1 (devRow size op act a n cap) (some g))))
    | (go_at_call 23; ((with_reducible refine (N2.out _ (dice_alloc hd1 _)).mono ?_); rintro e w2 ⟨rfl, hd2, hg2, hs2⟩; rw [HC.out]; have hx2 := row_grown hg2 hx1' (by omega); have hr2 := row_grown hg2 hr1' (by omega); have hv2 := row_grown hg2 hv1 (by omega); obtain ⟨y2, d0, d1, d2, d3⟩ := row4 hx2; have hz2 := hz1.on (agree_grown hg2 hFg); have t2 : w2.heap.size = w1.heap.size + 1 := hs2.trans (World.size_alloc _ _); have G2 := grownBy_trans G1 hg2; have l0 := (row4 hv2).2.1; have l1 := (row4 hv2).2.2.1; have l2 := (row4 hv2).2.2.2.1; have l3 := (row4 hv2).2.2.2.2))
    | (go_at_call 38; ((with_reducible refine (HO.out w2 (fun b hb => by have := hF b hb; omega) hz2).mono ?_); rintro e w3 ⟨a3, c3, rfl, hz3, hb3⟩; have hx3 := row_on hb3 hx2 (lt_of_block hx2); have hr3 := row_on hb3 hr2 (lt_of_block hr2); have hv3 := row_on hb3 hv2 (lt_of_block hv2); have hd3 := dice_on hd2 hb3 (Nat.le_refl _); have G3 := grownBy_trans G2 (below_grown hb3 g)))
    | ((with_reducible refine Plan.store_lit 24 (.tmp 8) _ (w.heap.size + 1 + 1) ?_ hv3 ?_ ?_ ?_ ?_ ?_ ?_); rotate_left; (· rfl); (· rfl); (· exact dev_info); (· rfl); (· simp [Value.oneCell']); simp only [Act.put]; have hv4 := setRow_heap _ _ _ #[.int .i64 rs, .int .i64 ro, .int .i64 ra, .slice a3 n c3] _ _ hv3; have hx4 := (setRow_other _ (w.heap.size + 1 + 1) w.heap.size #[.int .i64 rs, .int .i64 ro, .int .i64 ra, .slice a3 n c3] (by omega)).trans hx3; have hr4 := (setRow_other _ (w.heap.size + 1 + 1) (w.heap.size + 1) #[.int .i64 rs, .int .i64 ro, .int .i64 ra, .slice a3 n c3] (by omega)).trans hr3; have hz4 := hz3.on (Agree.row (r := (w.heap.size + 1 + 1)) (by rintro (h | h); (· have := hF _ h; omega); (· omega)) #[.int .i64 rs, .int .i64 ro, .int .i64 ra, .slice a3 n c3]); have hd4 := dice_far hd3 (grownBy_setRow w3 (w.heap.size + 1 + 1) #[.int .i64 rs, .int .i64 ro, .int .i64 ra, .slice a3 n c3]) (by omega); have G4 := grownBy_row G3 (x := (w.heap.size + 1 + 1)) (by omega) #[.int .i64 rs, .int .i64 ro, .int .i64 ra, .slice a3 n c3]; generalize w3.setRow (w.heap.size + 1 + 1) #[.int .i64 rs, .int .i64 ro, .int .i64 ra, .slice a3 n c3] = w4 at hv4 hx4 hr4 hz4 hd4 G4 ⊢; clear d0 d1 d2 d3 l0 l1 l2 l3; obtain ⟨y4, d0, d1, d2, d3⟩ := row4 hx4; obtain ⟨v4, l0, l1, l2, l3⟩ := row4 hv4)
    | ((with_reducible refine Plan.store_lit 24 (.tmp 6) _ (w.heap.size + 1) ?_ hr4 ?_ ?_ ?_ ?_ ?_ ?_); rotate_left; (· rfl); (· rfl); (· exact dev_info); (· rfl); (· simp [Value.oneCell']); simp only [Act.put]))
  have hzf := (((HZ.out.on (Agree.below HA.out)).mono (G := fun b => F b) (fun _ _ h => h)))
  have hzw : ZonesIn w4 F a n cap Z := HZ.out.on (agree_grown G4 hFg)
  have hz5 := hzw.on (Agree.row (r := w.heap.size + 1) (fun h => by have := hF _ h; omega) #[.int .i64 size, .int .i64 op, .int .i64 act, .slice a n cap])
  exact bodyPost_ret (results_cell_row rfl _ _ _ _ _ _ _ rfl (setRow_heap _ _ _ _ _ _ hr4) Try.underlying24 rfl dev_info) rfl ⟨⟨size, op, act, Z⟩, a, cap, _, rfl, hz5.mono (fun _ _ h => .inl h), hc, HKK.out.1, HKK.out.2, dice_far hd4 (grownBy_setRow w4 _ _) (by omega), grownBy_row G4 (by omega) _⟩
end Go.Proofs.Ytlplomofgbmgaaa

/- The walk of the maker's Command where it appends. -/
namespace Go.Proofs.Ytlplomofgbmgaaa
open Go.RowKit Plan ZnsMath

theorem stp3_ge (zs : List Int) (k : Nat) : k ≤ stp3 zs k := by
  unfold stp3
  have a := stp_ge zs k
  have b := stp_ge zs (stp zs k)
  have c := stp_ge zs (stp zs (stp zs k))
  omega
theorem stp3_end {zs : List Int} {k : Nat} (h : k ≤ zs.length) : stp3 zs k ≤ zs.length := stp_end (stp_end (stp_end h))
set_option maxHeartbeats 2000000 in
set_option maxRecDepth 20000 in
theorem cmd_append (F : Nat → Prop) (D : Dev) (a : Option Addr) (n cap base g : Nat) (zs : List Int) (k : Nat) (w : World) (hF : ∀ b, F b → b < w.heap.size) (hFg : ¬ F g) (hz : ZonesIn w F a n cap D.zones) (hn1 : 1 ≤ n) (hn : n ≤ 1000) (hc : checkE D = 0) (hd : Dice w base g zs k) (hl : zs.length ≤ 100000) (hk : k < zs.length) (hcc : 5 ≤ nxt zs (stp zs k) 9) (hEE : ∀ (i : Nat) (s : ByteArray), nxt zs k (n : Int) = (i : Int) → s = ⟨(RecMath.encL (mk (madeK zs (stp zs (stp zs (stp zs k)))) (nxt zs (stp zs (stp zs (stp zs k))) 5) (1 + nxt zs (stp zs (stp zs k)) 40) 0 (madeP zs (stp zs (stp zs (stp zs k)))))).toArray⟩ → appendE D (i : Int) s = 0) :
    Calls Try.prog 26 #[.pointer (some ⟨g, 0, none⟩), devV D a n cap, .int .i64 (n : Int)] w (CmdPost w F base g zs k n) := by
  have hgl := dice_lt hd
  have hlen := hz.is.length
  obtain ⟨i, hi, hin⟩ : ∃ i : Nat, nxt zs k (n : Int) = (i : Int) ∧ i < n := by
    have := nxt_range zs k (n : Int) (by omega)
    exact ⟨(nxt zs k (n : Int)).toNat, by omega, by omega⟩
  have hnx1 : ∀ W, Dice W base g zs k → Calls Try.prog 23 #[.pointer (some ⟨g, 0, none⟩), .int .i64 (n : Int)] W (NextPost W base g zs k (n : Int)) := fun W h => next_any W base g zs k n h hl (by omega) (by omega)
  have hnx2 : ∀ W, Dice W base g zs (stp zs k) → Calls Try.prog 23 #[.pointer (some ⟨g, 0, none⟩), .int .i64 9] W (NextPost W base g zs (stp zs k) 9) := fun W h => next_any W base g zs _ 9 h hl (by decide) (by decide)
  have hA : Below w.heap.size w ((w.alloc (devRow D.size D.maxOpen D.maxActive a n cap)).alloc (devRow 0 0 0 none 0 0)) := ((Below.refl _ _).alloc (Nat.le_refl _) _).alloc (by simp) _
  have ZI := Lib.hid hi
  have N1 := Lib.hid hnx1
  have N2 := Lib.hid hnx2
  have HA := Lib.hid hA
  have HZ := Lib.hid hz
  have D0 := Lib.hid (dice_alloc (dice_alloc hd (devRow D.size D.maxOpen D.maxActive a n cap)) (devRow 0 0 0 none 0 0))
  have hk' : k < stp zs (stp zs k) ∧ stp zs (stp zs k) ≤ zs.length := by
    rw [stp_step hk]
    have := stp_ge zs (k + 1)
    have := stp_end (zs := zs) (k := k + 1) (by omega)
    omega
  have HKK := Lib.hid hk'
  have hnx3 : ∀ W, Dice W base g zs (stp zs (stp zs k)) → Calls Try.prog 23 #[.pointer (some ⟨g, 0, none⟩), .int .i64 40] W (NextPost W base g zs (stp zs (stp zs k)) 40) := fun W h => next_any W base g zs _ 40 h hl (by decide) (by decide)
  have hmd : ∀ W v, Dice W base g zs (stp zs (stp zs (stp zs k))) → Calls Try.prog 41 #[.pointer (some ⟨g, 0, none⟩), .int .i64 5, .int .i64 v] W (MadePost W base g zs (stp zs (stp zs (stp zs k))) 5 v) := fun W v h => made_any W base g zs _ 5 v h hl (by decide) (by decide)
  have hsec := fun b W => sector_made (madeK zs (stp zs (stp zs (stp zs k)))) (nxt zs (stp zs (stp zs (stp zs k))) 5) b 0 (madeP zs (stp zs (stp zs (stp zs k)))) W
  have hcr := nxt_range zs (stp zs k) 9 (by decide)
  have hvr := nxt_range zs (stp zs (stp zs k)) 40 (by decide)
  have hee := hEE i _ hi rfl
  generalize hcq : nxt zs (stp zs k) 9 = c at *
  unfold MadePost at hmd
  generalize madeK zs (stp zs (stp zs (stp zs k))) = mK at *
  generalize madeP zs (stp zs (stp zs (stp zs k))) = mP at *
  generalize nxt zs (stp zs (stp zs (stp zs k))) 5 = mB at *
  generalize hvq : nxt zs (stp zs (stp zs k)) 40 = v at *
  have hsec1 := hsec (1 + v)
  generalize (⟨(RecMath.encL (mk mK mB (1 + v) 0 mP)).toArray⟩ : ByteArray) = S at *
  clear hsec
  have hwv : IntKind.i64.wrap (1 + v) = 1 + v := by rw [IntKind.wrap_i64]; omega
  have q0 : (c == 0) = false := by simp; omega
  have q1 : (c == 1) = false := by simp; omega
  have q2 : (c == 2) = false := by simp; omega
  have q3 : (c == 3) = false := by simp; omega
  have q4 : (c == 4) = false := by simp; omega
  have hkp := (append_kept (s := S) hc (k := i) (by omega)).1.valid
  have hop : ∀ W, (∀ b, F b → b < W.heap.size) → ZonesIn W F a n cap D.zones → Calls Try.prog 39 #[devV D a n cap, .int .i64 (i : Int), .string S] W fun e w' => ∃ a' cap', e = .returned (.tuple #[devV (appendR D (i : Int) S) a' n cap', .int .i64 (appendO D (i : Int) S), .int .i64 (appendE D (i : Int) S)]) ∧ ZonesIn w' (Plus F W.heap.size) a' n cap' (appendR D (i : Int) S).zones ∧ Below W.heap.size W w' := fun W h1 h2 => refAppend_any F D a n cap i S W h1 h2 (by omega)
  rw [hee] at hop
  generalize appendR D (i : Int) S = R at *
  generalize appendO D (i : Int) S = O at *
  have hk3 : k < stp3 zs (stp zs (stp zs (stp zs k))) ∧ stp3 zs (stp zs (stp zs (stp zs k))) ≤ zs.length := by
    have a1 := stp3_ge zs (stp zs (stp zs (stp zs k)))
    have a2 := stp_ge zs (stp zs (stp zs k))
    exact ⟨by omega, stp3_end (stp_end hk'.2)⟩
  have HO := Lib.hid hop
  have HC := Lib.hid hcq
  have HV := Lib.hid hvq
  have N3 := Lib.hid hnx3
  have HM := Lib.hid hmd
  have HS := Lib.hid hsec1
  have HK3 := Lib.hid hk3
  clear hop hnx1 hnx2 hnx3 hmd hsec1 hA hd hi hcc hEE hee hk' hk3 HKK hcq hvq hcr hvr
  unfold CmdPost
  obtain ⟨size, op, act, Z⟩ := D
  obtain ⟨rs, ro, ra, RZ⟩ := R
  go_enter Try.func26, Try.ntmps26
  go_wp2_with (first
    | (go_at_call 23; ((with_reducible refine (N1.out _ D0.out).mono ?_); rintro e w1 ⟨rfl, hd1, hg1, hs1⟩; rw [ZI.out]; have hx1 := row_grown hg1 (heap_first2 w _ _) (by omega); have hr1 := row_grown hg1 (heap_second w _ _) (by omega); have t1 : w1.heap.size = w.heap.size + 1 + 1 := hs1.trans (by simp only [World.size_alloc]); have hv1 : (w1.alloc (devRow size op act a n cap)).heap[w.heap.size + 1 + 1]? = some (devRow size op act a n cap) := (by rw [← t1]; exact heap_alloc_new w1 (devRow size op act a n cap)); have hx1' := row_al hx1 (devRow size op act a n cap); have hr1' := row_al hr1 (devRow size op act a n cap); obtain ⟨y1, d0, d1, d2, d3⟩ := row4 hx1; have hz1 := ((HZ.out.on (Agree.below HA.out)).on (agree_grown hg1 hFg)).on (Agree.below ((Below.refl _ _).alloc (Nat.le_refl _) (devRow size op act a n cap))); have G1 := grownBy_trans (grownBy_trans (below_grown HA.out g) hg1) (World.grownBy_alloc w1 (devRow size op act a n cap) (some g))))
    | (go_at_call 23; ((with_reducible refine (N2.out _ (dice_alloc hd1 _)).mono ?_); rintro e w2 ⟨rfl, hd2, hg2, hs2⟩; rw [HC.out]; have hx2 := row_grown hg2 hx1' (by omega); have hr2 := row_grown hg2 hr1' (by omega); have hv2 := row_grown hg2 hv1 (by omega); obtain ⟨y2, d0, d1, d2, d3⟩ := row4 hx2; have hz2 := hz1.on (agree_grown hg2 hFg); have t2 : w2.heap.size = w1.heap.size + 1 := hs2.trans (World.size_alloc _ _); have G2 := grownBy_trans G1 hg2; have l0 := (row4 hv2).2.1; have l1 := (row4 hv2).2.2.1; have l2 := (row4 hv2).2.2.2.1; have l3 := (row4 hv2).2.2.2.2)))
  refine Plan.start (fun W => DevAt W w.heap.size size op act a n cap) [(0, true), (1, true), (2, true), (3, true), (4, false), (5, true), (6, false), (7, false), (8, false), (9, true), (10, true), (11, true), (12, true), (13, false), (14, true)] (by kernel_rfl) (by kernel_rfl) (by kernel_rfl) (by kernel_rfl) (row4 hx2).2 ?_
  simp only [List.map_cons, List.map_nil, List.getElem?_toArray, List.getElem?_cons_zero, List.getElem?_cons_succ]
  repeat (first | (refine Plan.take ?_ (by rfl) ?_ ?_; rotate_left; (· rintro w9 ⟨e0, e1, e2, e3⟩; go_simp; (try rw [if_neg (by omega)]); all_goals (with_reducible rfl)); simp only [Act.put, List.setIfInBounds_toArray, List.set_cons_zero, List.set_cons_succ]) | (refine Plan.pass (by rfl) ?_; simp only [Act.put, List.setIfInBounds_toArray, List.set_cons_zero, List.set_cons_succ]))
  refine Plan.call (by rfl) 23 _ ?_ (N3.out _ (dice_drew hd2)) ?_
  · go_simp
  rintro e w3 ⟨rfl, hd3, hg3, hs3⟩
  have hg3 := grownBy_trans (grownBy_drew w2 (some g)) hg3
  have hs3 : w3.heap.size = w2.heap.size := hs3
  rw [HV.out]
  have hx3 := row_grown hg3 hx2 (by omega)
  have hr3 := row_grown hg3 hr2 (by omega)
  have hv3 := row_grown hg3 hv2 (by omega)
  have hz3 := hz2.on (agree_grown hg3 hFg)
  have G3 := grownBy_trans G2 hg3
  refine ⟨_, rfl, (row4 hx3).2, ?_⟩
  simp only [Act.put, List.setIfInBounds_toArray, List.set_cons_zero, List.set_cons_succ]
  repeat (first | (refine Plan.take ?_ (by rfl) ?_ ?_; rotate_left; (· rintro w9 ⟨e0, e1, e2, e3⟩; go_simp; (try rw [if_neg (by omega)]); all_goals (with_reducible rfl)); simp only [Act.put, List.setIfInBounds_toArray, List.set_cons_zero, List.set_cons_succ]) | (refine Plan.pass (by rfl) ?_; simp only [Act.put, List.setIfInBounds_toArray, List.set_cons_zero, List.set_cons_succ]))
  refine Plan.call (by rfl) 41 _ ?_ (HM.out _ (1 + v) hd3) ?_
  · go_simp
  rintro e w4 ⟨rfl, hd4, hg4⟩
  have hx4 := row_grown hg4 hx3 (by omega)
  have hr4 := row_grown hg4 hr3 (by omega)
  have hv4 := row_grown hg4 hv3 (by omega)
  have hz4 := hz3.on (agree_grown hg4 hFg)
  have G4 := grownBy_trans G3 hg4
  refine ⟨_, rfl, (row4 hx4).2, ?_⟩
  simp only [Act.put, List.setIfInBounds_toArray, List.set_cons_zero, List.set_cons_succ]
  refine Plan.call (by rfl) 40 _ ?_ (HS.out _) ?_
  · go_simp
  rintro e w5 ⟨rfl, hb5⟩
  have hx5 := row_on hb5 hx4 (lt_of_block hx4)
  have hr5 := row_on hb5 hr4 (lt_of_block hr4)
  have hv5 := row_on hb5 hv4 (lt_of_block hv4)
  have hz5 := hz4.on (Agree.below hb5)
  have hd5 := dice_on hd4 hb5 (Nat.le_refl _)
  have G5 := grownBy_trans G4 (below_grown hb5 g)
  refine ⟨_, rfl, (row4 hx5).2, ?_⟩
  simp only [Act.put, List.setIfInBounds_toArray, List.set_cons_zero, List.set_cons_succ]
  have hlv := lt_of_block hv5
  refine Plan.call (by rfl) 39 _ ?_ (HO.out w5 (fun b hb => by have := hF b hb; omega) hz5) ?_
  · go_simp
  rintro e w6 ⟨a3, c3, rfl, hz6, hb6⟩
  have hx6 := row_on hb6 hx5 (lt_of_block hx5)
  have hr6 := row_on hb6 hr5 (lt_of_block hr5)
  have hv6 := row_on hb6 hv5 (lt_of_block hv5)
  have hd6 := dice_on hd5 hb6 (Nat.le_refl _)
  have G6 := grownBy_trans G5 (below_grown hb6 g)
  refine ⟨_, rfl, (row4 hx6).2, ?_⟩
  simp only [Act.put, List.setIfInBounds_toArray, List.set_cons_zero, List.set_cons_succ]
  repeat (first | (refine Plan.take ?_ (by rfl) ?_ ?_; rotate_left; (· rintro w9 ⟨e0, e1, e2, e3⟩; go_simp; (try rw [if_neg (by omega)]); all_goals (with_reducible rfl)); simp only [Act.put, List.setIfInBounds_toArray, List.set_cons_zero, List.set_cons_succ]) | (refine Plan.pass (by rfl) ?_; simp only [Act.put, List.setIfInBounds_toArray, List.set_cons_zero, List.set_cons_succ]))
  have hv7 := setRow_heap w6 (w.heap.size + 1 + 1) _ #[.int .i64 rs, .int .i64 ro, .int .i64 ra, .slice a3 n c3] _ _ hv6
  have hx7 := (setRow_other w6 (w.heap.size + 1 + 1) w.heap.size #[.int .i64 rs, .int .i64 ro, .int .i64 ra, .slice a3 n c3] (by omega)).trans hx6
  have hr7 := (setRow_other w6 (w.heap.size + 1 + 1) (w.heap.size + 1) #[.int .i64 rs, .int .i64 ro, .int .i64 ra, .slice a3 n c3] (by omega)).trans hr6
  have hz7 := hz6.on (Agree.row (r := (w.heap.size + 1 + 1)) (by rintro (h | h); (· have := hF _ h; omega); (· omega)) #[.int .i64 rs, .int .i64 ro, .int .i64 ra, .slice a3 n c3])
  have hd7 := dice_far hd6 (grownBy_setRow w6 (w.heap.size + 1 + 1) #[.int .i64 rs, .int .i64 ro, .int .i64 ra, .slice a3 n c3]) (by omega)
  have G7 := grownBy_row G6 (x := (w.heap.size + 1 + 1)) (by omega) #[.int .i64 rs, .int .i64 ro, .int .i64 ra, .slice a3 n c3]
  refine Plan.store (by rfl) 24 _ _ rfl (w.heap.size + 1 + 1) #[.int .i64 rs, .int .i64 ro, .int .i64 ra, .slice a3 n c3] (by rfl) (by rfl) 24 _ hv6 dev_info rfl (by simp [Value.oneCell']) (row4 hx7).2 ?_
  simp only [Act.put]
  generalize w6.setRow (w.heap.size + 1 + 1) #[.int .i64 rs, .int .i64 ro, .int .i64 ra, .slice a3 n c3] = w7 at hv7 hx7 hr7 hz7 hd7 G7 ⊢
  repeat (first | (refine Plan.take ?_ (by rfl) ?_ ?_; rotate_left; (· rintro w9 ⟨e0, e1, e2, e3⟩; go_simp; (try rw [if_neg (by omega)]); all_goals (with_reducible rfl)); simp only [Act.put, List.setIfInBounds_toArray, List.set_cons_zero, List.set_cons_succ]) | (refine Plan.pass (by rfl) ?_; simp only [Act.put, List.setIfInBounds_toArray, List.set_cons_zero, List.set_cons_succ]))
  refine Plan.ends ?_
  clear d0 d1 d2 d3 l0 l1 l2 l3
  obtain ⟨y7, d0, d1, d2, d3⟩ := row4 hx7
  obtain ⟨v7, l0, l1, l2, l3⟩ := row4 hv7
  go_wp2_with (first
    | ((with_reducible refine Plan.store_lit 24 (.tmp 6) _ (w.heap.size + 1) ?_ hr7 ?_ ?_ ?_ ?_ ?_ ?_); rotate_left; (· rfl); (· rfl); (· exact dev_info); (· rfl); (· simp [Value.oneCell']); simp only [Act.put]))
  have hz8 := hz7.on (Agree.row (r := w.heap.size + 1) (by rintro (h | h); (· have := hF _ h; omega); (· omega)) #[.int .i64 rs, .int .i64 ro, .int .i64 ra, .slice a3 n c3])
  have n5 := G5.size
  exact bodyPost_ret (results_cell_row rfl _ _ _ _ _ _ _ rfl (setRow_heap _ _ _ _ _ _ hr7) Try.underlying24 rfl dev_info) rfl ⟨⟨rs, ro, ra, RZ⟩, a3, c3, _, rfl, hz8.mono (fun _ _ h => h.imp id (fun h => by omega)), hkp, HK3.out.1, HK3.out.2, dice_far hd7 (grownBy_setRow w7 _ _) (by omega), grownBy_row G7 (by omega) _⟩
set_option maxHeartbeats 2000000 in
set_option maxRecDepth 20000 in
theorem cmd_append_err (F : Nat → Prop) (D : Dev) (a : Option Addr) (n cap base g : Nat) (zs : List Int) (k : Nat) (w : World) (hF : ∀ b, F b → b < w.heap.size) (hFg : ¬ F g) (hz : ZonesIn w F a n cap D.zones) (hn1 : 1 ≤ n) (hn : n ≤ 1000) (hc : checkE D = 0) (hd : Dice w base g zs k) (hl : zs.length ≤ 100000) (hk : k < zs.length) (hcc : 5 ≤ nxt zs (stp zs k) 9) (hEE : ∀ (i : Nat) (s : ByteArray), nxt zs k (n : Int) = (i : Int) → s = ⟨(RecMath.encL (mk (madeK zs (stp zs (stp zs (stp zs k)))) (nxt zs (stp zs (stp zs (stp zs k))) 5) (1 + nxt zs (stp zs (stp zs k)) 40) 0 (madeP zs (stp zs (stp zs (stp zs k)))))).toArray⟩ → appendE D (i : Int) s ≠ 0) :
    Calls Try.prog 26 #[.pointer (some ⟨g, 0, none⟩), devV D a n cap, .int .i64 (n : Int)] w (CmdPost w F base g zs k n) := by
  have hgl := dice_lt hd
  have hlen := hz.is.length
  obtain ⟨i, hi, hin⟩ : ∃ i : Nat, nxt zs k (n : Int) = (i : Int) ∧ i < n := by
    have := nxt_range zs k (n : Int) (by omega)
    exact ⟨(nxt zs k (n : Int)).toNat, by omega, by omega⟩
  have hnx1 : ∀ W, Dice W base g zs k → Calls Try.prog 23 #[.pointer (some ⟨g, 0, none⟩), .int .i64 (n : Int)] W (NextPost W base g zs k (n : Int)) := fun W h => next_any W base g zs k n h hl (by omega) (by omega)
  have hnx2 : ∀ W, Dice W base g zs (stp zs k) → Calls Try.prog 23 #[.pointer (some ⟨g, 0, none⟩), .int .i64 9] W (NextPost W base g zs (stp zs k) 9) := fun W h => next_any W base g zs _ 9 h hl (by decide) (by decide)
  have hA : Below w.heap.size w ((w.alloc (devRow D.size D.maxOpen D.maxActive a n cap)).alloc (devRow 0 0 0 none 0 0)) := ((Below.refl _ _).alloc (Nat.le_refl _) _).alloc (by simp) _
  have ZI := Lib.hid hi
  have N1 := Lib.hid hnx1
  have N2 := Lib.hid hnx2
  have HA := Lib.hid hA
  have HZ := Lib.hid hz
  have D0 := Lib.hid (dice_alloc (dice_alloc hd (devRow D.size D.maxOpen D.maxActive a n cap)) (devRow 0 0 0 none 0 0))
  have hk' : k < stp zs (stp zs k) ∧ stp zs (stp zs k) ≤ zs.length := by
    rw [stp_step hk]
    have := stp_ge zs (k + 1)
    have := stp_end (zs := zs) (k := k + 1) (by omega)
    omega
  have HKK := Lib.hid hk'
  have hnx3 : ∀ W, Dice W base g zs (stp zs (stp zs k)) → Calls Try.prog 23 #[.pointer (some ⟨g, 0, none⟩), .int .i64 40] W (NextPost W base g zs (stp zs (stp zs k)) 40) := fun W h => next_any W base g zs _ 40 h hl (by decide) (by decide)
  have hmd : ∀ W v, Dice W base g zs (stp zs (stp zs (stp zs k))) → Calls Try.prog 41 #[.pointer (some ⟨g, 0, none⟩), .int .i64 5, .int .i64 v] W (MadePost W base g zs (stp zs (stp zs (stp zs k))) 5 v) := fun W v h => made_any W base g zs _ 5 v h hl (by decide) (by decide)
  have hsec := fun b W => sector_made (madeK zs (stp zs (stp zs (stp zs k)))) (nxt zs (stp zs (stp zs (stp zs k))) 5) b 0 (madeP zs (stp zs (stp zs (stp zs k)))) W
  have hcr := nxt_range zs (stp zs k) 9 (by decide)
  have hvr := nxt_range zs (stp zs (stp zs k)) 40 (by decide)
  have hee := hEE i _ hi rfl
  generalize hcq : nxt zs (stp zs k) 9 = c at *
  unfold MadePost at hmd
  generalize madeK zs (stp zs (stp zs (stp zs k))) = mK at *
  generalize madeP zs (stp zs (stp zs (stp zs k))) = mP at *
  generalize nxt zs (stp zs (stp zs (stp zs k))) 5 = mB at *
  generalize hvq : nxt zs (stp zs (stp zs k)) 40 = v at *
  have hsec1 := hsec (1 + v)
  generalize (⟨(RecMath.encL (mk mK mB (1 + v) 0 mP)).toArray⟩ : ByteArray) = S at *
  clear hsec
  have hwv : IntKind.i64.wrap (1 + v) = 1 + v := by rw [IntKind.wrap_i64]; omega
  have q0 : (c == 0) = false := by simp; omega
  have q1 : (c == 1) = false := by simp; omega
  have q2 : (c == 2) = false := by simp; omega
  have q3 : (c == 3) = false := by simp; omega
  have q4 : (c == 4) = false := by simp; omega
  have hkp := (append_kept (s := S) hc (k := i) (by omega)).1.valid
  have hop : ∀ W, (∀ b, F b → b < W.heap.size) → ZonesIn W F a n cap D.zones → Calls Try.prog 39 #[devV D a n cap, .int .i64 (i : Int), .string S] W fun e w' => ∃ a' cap', e = .returned (.tuple #[devV (appendR D (i : Int) S) a' n cap', .int .i64 (appendO D (i : Int) S), .int .i64 (appendE D (i : Int) S)]) ∧ ZonesIn w' (Plus F W.heap.size) a' n cap' (appendR D (i : Int) S).zones ∧ Below W.heap.size W w' := fun W h1 h2 => refAppend_any F D a n cap i S W h1 h2 (by omega)
  generalize appendE D (i : Int) S = E at *
  have he0 : (E != 0) = true := by simp [hee]
  generalize appendR D (i : Int) S = R at *
  generalize appendO D (i : Int) S = O at *
  have hk3 : k < stp3 zs (stp zs (stp zs (stp zs k))) ∧ stp3 zs (stp zs (stp zs (stp zs k))) ≤ zs.length := by
    have a1 := stp3_ge zs (stp zs (stp zs (stp zs k)))
    have a2 := stp_ge zs (stp zs (stp zs k))
    exact ⟨by omega, stp3_end (stp_end hk'.2)⟩
  have HO := Lib.hid hop
  have HC := Lib.hid hcq
  have HV := Lib.hid hvq
  have N3 := Lib.hid hnx3
  have HM := Lib.hid hmd
  have HS := Lib.hid hsec1
  have HK3 := Lib.hid hk3
  clear hop hnx1 hnx2 hnx3 hmd hsec1 hA hd hi hcc hEE hee hk' hk3 HKK hcq hvq hcr hvr
  unfold CmdPost
  obtain ⟨size, op, act, Z⟩ := D
  obtain ⟨rs, ro, ra, RZ⟩ := R
  go_enter Try.func26, Try.ntmps26
  go_wp2_with (first
    | (go_at_call 23; ((with_reducible refine (N1.out _ D0.out).mono ?_); rintro e w1 ⟨rfl, hd1, hg1, hs1⟩; rw [ZI.out]; have hx1 := row_grown hg1 (heap_first2 w _ _) (by omega); have hr1 := row_grown hg1 (heap_second w _ _) (by omega); have t1 : w1.heap.size = w.heap.size + 1 + 1 := hs1.trans (by simp only [World.size_alloc]); have hv1 : (w1.alloc (devRow size op act a n cap)).heap[w.heap.size + 1 + 1]? = some (devRow size op act a n cap) := (by rw [← t1]; exact heap_alloc_new w1 (devRow size op act a n cap)); have hx1' := row_al hx1 (devRow size op act a n cap); have hr1' := row_al hr1 (devRow size op act a n cap); obtain ⟨y1, d0, d1, d2, d3⟩ := row4 hx1; have hz1 := ((HZ.out.on (Agree.below HA.out)).on (agree_grown hg1 hFg)).on (Agree.below ((Below.refl _ _).alloc (Nat.le_refl _) (devRow size op act a n cap))); have G1 := grownBy_trans (grownBy_trans (below_grown HA.out g) hg1) (World.grownBy_alloc w1 (devRow size op act a n cap) (some g))))
    | (go_at_call 23; ((with_reducible refine (N2.out _ (dice_alloc hd1 _)).mono ?_); rintro e w2 ⟨rfl, hd2, hg2, hs2⟩; rw [HC.out]; have hx2 := row_grown hg2 hx1' (by omega); have hr2 := row_grown hg2 hr1' (by omega); have hv2 := row_grown hg2 hv1 (by omega); obtain ⟨y2, d0, d1, d2, d3⟩ := row4 hx2; have hz2 := hz1.on (agree_grown hg2 hFg); have t2 : w2.heap.size = w1.heap.size + 1 := hs2.trans (World.size_alloc _ _); have G2 := grownBy_trans G1 hg2; have l0 := (row4 hv2).2.1; have l1 := (row4 hv2).2.2.1; have l2 := (row4 hv2).2.2.2.1; have l3 := (row4 hv2).2.2.2.2)))
  refine Plan.start (fun W => DevAt W w.heap.size size op act a n cap) [(0, true), (1, true), (2, true), (3, true), (4, false), (5, true), (6, false), (7, false), (8, false), (9, true), (10, true), (11, true), (12, true), (13, false), (14, true)] (by kernel_rfl) (by kernel_rfl) (by kernel_rfl) (by kernel_rfl) (row4 hx2).2 ?_
  simp only [List.map_cons, List.map_nil, List.getElem?_toArray, List.getElem?_cons_zero, List.getElem?_cons_succ]
  repeat (first | (refine Plan.take ?_ (by rfl) ?_ ?_; rotate_left; (· rintro w9 ⟨e0, e1, e2, e3⟩; go_simp; (try rw [if_neg (by omega)]); all_goals (with_reducible rfl)); simp only [Act.put, List.setIfInBounds_toArray, List.set_cons_zero, List.set_cons_succ]) | (refine Plan.pass (by rfl) ?_; simp only [Act.put, List.setIfInBounds_toArray, List.set_cons_zero, List.set_cons_succ]))
  refine Plan.call (by rfl) 23 _ ?_ (N3.out _ (dice_drew hd2)) ?_
  · go_simp
  rintro e w3 ⟨rfl, hd3, hg3, hs3⟩
  have hg3 := grownBy_trans (grownBy_drew w2 (some g)) hg3
  have hs3 : w3.heap.size = w2.heap.size := hs3
  rw [HV.out]
  have hx3 := row_grown hg3 hx2 (by omega)
  have hr3 := row_grown hg3 hr2 (by omega)
  have hv3 := row_grown hg3 hv2 (by omega)
  have hz3 := hz2.on (agree_grown hg3 hFg)
  have G3 := grownBy_trans G2 hg3
  refine ⟨_, rfl, (row4 hx3).2, ?_⟩
  simp only [Act.put, List.setIfInBounds_toArray, List.set_cons_zero, List.set_cons_succ]
  repeat (first | (refine Plan.take ?_ (by rfl) ?_ ?_; rotate_left; (· rintro w9 ⟨e0, e1, e2, e3⟩; go_simp; (try rw [if_neg (by omega)]); all_goals (with_reducible rfl)); simp only [Act.put, List.setIfInBounds_toArray, List.set_cons_zero, List.set_cons_succ]) | (refine Plan.pass (by rfl) ?_; simp only [Act.put, List.setIfInBounds_toArray, List.set_cons_zero, List.set_cons_succ]))
  refine Plan.call (by rfl) 41 _ ?_ (HM.out _ (1 + v) hd3) ?_
  · go_simp
  rintro e w4 ⟨rfl, hd4, hg4⟩
  have hx4 := row_grown hg4 hx3 (by omega)
  have hr4 := row_grown hg4 hr3 (by omega)
  have hv4 := row_grown hg4 hv3 (by omega)
  have hz4 := hz3.on (agree_grown hg4 hFg)
  have G4 := grownBy_trans G3 hg4
  refine ⟨_, rfl, (row4 hx4).2, ?_⟩
  simp only [Act.put, List.setIfInBounds_toArray, List.set_cons_zero, List.set_cons_succ]
  refine Plan.call (by rfl) 40 _ ?_ (HS.out _) ?_
  · go_simp
  rintro e w5 ⟨rfl, hb5⟩
  have hx5 := row_on hb5 hx4 (lt_of_block hx4)
  have hr5 := row_on hb5 hr4 (lt_of_block hr4)
  have hv5 := row_on hb5 hv4 (lt_of_block hv4)
  have hz5 := hz4.on (Agree.below hb5)
  have hd5 := dice_on hd4 hb5 (Nat.le_refl _)
  have G5 := grownBy_trans G4 (below_grown hb5 g)
  refine ⟨_, rfl, (row4 hx5).2, ?_⟩
  simp only [Act.put, List.setIfInBounds_toArray, List.set_cons_zero, List.set_cons_succ]
  have hlv := lt_of_block hv5
  refine Plan.call (by rfl) 39 _ ?_ (HO.out w5 (fun b hb => by have := hF b hb; omega) hz5) ?_
  · go_simp
  rintro e w6 ⟨a3, c3, rfl, hz6, hb6⟩
  have hx6 := row_on hb6 hx5 (lt_of_block hx5)
  have hr6 := row_on hb6 hr5 (lt_of_block hr5)
  have hv6 := row_on hb6 hv5 (lt_of_block hv5)
  have hd6 := dice_on hd5 hb6 (Nat.le_refl _)
  have G6 := grownBy_trans G5 (below_grown hb6 g)
  refine ⟨_, rfl, (row4 hx6).2, ?_⟩
  simp only [Act.put, List.setIfInBounds_toArray, List.set_cons_zero, List.set_cons_succ]
  repeat (first | (refine Plan.take ?_ (by rfl) ?_ ?_; rotate_left; (· rintro w9 ⟨e0, e1, e2, e3⟩; go_simp; (try rw [if_neg (by omega)]); all_goals (with_reducible rfl)); simp only [Act.put, List.setIfInBounds_toArray, List.set_cons_zero, List.set_cons_succ]) | (refine Plan.pass (by rfl) ?_; simp only [Act.put, List.setIfInBounds_toArray, List.set_cons_zero, List.set_cons_succ]))
  have hv7 := setRow_heap w6 (w.heap.size + 1 + 1) _ #[.int .i64 rs, .int .i64 ro, .int .i64 ra, .slice a3 n c3] _ _ hv6
  have hx7 := (setRow_other w6 (w.heap.size + 1 + 1) w.heap.size #[.int .i64 rs, .int .i64 ro, .int .i64 ra, .slice a3 n c3] (by omega)).trans hx6
  have hr7 := (setRow_other w6 (w.heap.size + 1 + 1) (w.heap.size + 1) #[.int .i64 rs, .int .i64 ro, .int .i64 ra, .slice a3 n c3] (by omega)).trans hr6
  have hz7 := hz6.on (Agree.row (r := (w.heap.size + 1 + 1)) (by rintro (h | h); (· have := hF _ h; omega); (· omega)) #[.int .i64 rs, .int .i64 ro, .int .i64 ra, .slice a3 n c3])
  have hd7 := dice_far hd6 (grownBy_setRow w6 (w.heap.size + 1 + 1) #[.int .i64 rs, .int .i64 ro, .int .i64 ra, .slice a3 n c3]) (by omega)
  have G7 := grownBy_row G6 (x := (w.heap.size + 1 + 1)) (by omega) #[.int .i64 rs, .int .i64 ro, .int .i64 ra, .slice a3 n c3]
  refine Plan.store (by rfl) 24 _ _ rfl (w.heap.size + 1 + 1) #[.int .i64 rs, .int .i64 ro, .int .i64 ra, .slice a3 n c3] (by rfl) (by rfl) 24 _ hv6 dev_info rfl (by simp [Value.oneCell']) (row4 hx7).2 ?_
  simp only [Act.put]
  generalize w6.setRow (w.heap.size + 1 + 1) #[.int .i64 rs, .int .i64 ro, .int .i64 ra, .slice a3 n c3] = w7 at hv7 hx7 hr7 hz7 hd7 G7 ⊢
  repeat (first | (refine Plan.take ?_ (by rfl) ?_ ?_; rotate_left; (· rintro w9 ⟨e0, e1, e2, e3⟩; go_simp; (try rw [if_neg (by omega)]); all_goals (with_reducible rfl)); simp only [Act.put, List.setIfInBounds_toArray, List.set_cons_zero, List.set_cons_succ]) | (refine Plan.pass (by rfl) ?_; simp only [Act.put, List.setIfInBounds_toArray, List.set_cons_zero, List.set_cons_succ]))
  refine Plan.ends ?_
  clear d0 d1 d2 d3 l0 l1 l2 l3
  obtain ⟨y7, d0, d1, d2, d3⟩ := row4 hx7
  obtain ⟨v7, l0, l1, l2, l3⟩ := row4 hv7
  go_wp2_with (first
    | ((with_reducible refine Plan.store_lit 24 (.tmp 6) _ (w.heap.size + 1) ?_ hr7 ?_ ?_ ?_ ?_ ?_ ?_); rotate_left; (· rfl); (· rfl); (· exact dev_info); (· rfl); (· simp [Value.oneCell']); simp only [Act.put]))
  have hzw : ZonesIn w7 F a n cap Z := HZ.out.on (agree_grown G7 hFg)
  have hz8 := hzw.on (Agree.row (r := w.heap.size + 1) (fun h => by have := hF _ h; omega) #[.int .i64 size, .int .i64 op, .int .i64 act, .slice a n cap])
  exact bodyPost_ret (results_cell_row rfl _ _ _ _ _ _ _ rfl (setRow_heap _ _ _ _ _ _ hr7) Try.underlying24 rfl dev_info) rfl ⟨⟨size, op, act, Z⟩, a, cap, _, rfl, hz8.mono (fun _ _ h => .inl h), hc, HK3.out.1, HK3.out.2, dice_far hd7 (grownBy_setRow w7 _ _) (by omega), grownBy_row G7 (by omega) _⟩
end Go.Proofs.Ytlplomofgbmgaaa

/- The walk of the maker's Command that makes all sectors durable, and Command whole. -/
namespace Go.Proofs.Ytlplomofgbmgaaa
open Go.RowKit Plan ZnsMath

def durZ (z : Zone) : Zone := ⟨z.state, z.sectors.length, z.sectors⟩
def durD (D : Dev) : Dev := ⟨D.size, D.maxOpen, D.maxActive, D.zones.map durZ⟩
def durPart (Z : List Zone) (j : Nat) : List Zone := (Z.take j).map durZ ++ Z.drop j
theorem durPart_zero (Z : List Zone) : durPart Z 0 = Z := by simp [durPart]
theorem durPart_all (Z : List Zone) {n : Nat} (h : Z.length = n) : durPart Z n = Z.map durZ := by
  subst h; simp [durPart]
theorem durPart_length (Z : List Zone) (j : Nat) : (durPart Z j).length = Z.length := by
  simp [durPart]; omega
theorem durPart_get {Z : List Zone} {j : Nat} {z : Zone} (h : Z[j]? = some z) : (durPart Z j)[j]? = some z := by
  have hj := (List.getElem?_eq_some_iff.1 h).1
  unfold durPart
  rw [List.getElem?_append_right (by simp; omega), List.length_map, List.length_take, Nat.min_eq_left (by omega), Nat.sub_self, List.getElem?_drop]
  simpa using h
theorem durPart_next {Z : List Zone} {j : Nat} {z : Zone} (h : Z[j]? = some z) : (durPart Z j).set j (durZ z) = durPart Z (j + 1) := by
  have hj := (List.getElem?_eq_some_iff.1 h).1
  apply List.ext_getElem?
  intro i
  by_cases hij : i = j
  · subst hij
    rw [List.getElem?_set_self (by rw [durPart_length]; exact hj)]
    unfold durPart
    rw [List.getElem?_append_left (by simp; omega), List.getElem?_map, List.getElem?_take, if_pos (by omega), h]
    rfl
  · rw [List.getElem?_set_ne (fun e => hij e.symm)]
    unfold durPart
    by_cases hlt : i < j
    · rw [List.getElem?_append_left (by simp; omega), List.getElem?_append_left (by simp; omega), List.getElem?_map, List.getElem?_map, List.getElem?_take, List.getElem?_take, if_pos hlt, if_pos (by omega)]
    · rw [List.getElem?_append_right (by simp; omega), List.getElem?_append_right (by simp; omega), List.length_map, List.length_map, List.length_take, List.length_take, List.getElem?_drop, List.getElem?_drop]
      congr 1
      omega
theorem dur_valid {D : Dev} (hc : checkE D = 0) : checkE (durD D) = 0 := by
  obtain ⟨h1, h2, h3, h4⟩ := check_parts hc
  have ho : ∀ Z : List Zone, countO (Z.map durZ) = countO Z ∧ countA (Z.map durZ) = countA Z := by
    intro Z
    induction Z with
    | nil => exact ⟨rfl, rfl⟩
    | cons z Z ih =>
      rw [List.map_cons, countO_cons, countA_cons, countO_cons, countA_cons, ih.1, ih.2]
      exact ⟨rfl, rfl⟩
  refine check_of ?_ ?_ ?_ ?_
  · rw [configB_eq] at h1 ⊢
    simpa [durD] using h1
  · unfold rightsB at h2 ⊢
    rw [List.all_eq_true] at h2 ⊢
    intro y hy
    obtain ⟨z, hz, rfl⟩ := List.mem_map.1 hy
    have hr := (right_iff _ _).1 (h2 z hz)
    rw [right_iff]
    refine ⟨?_, hr.2.1, ?_⟩
    · simp only [durZ, durD]
      omega
    · have h := hr.2.2
      simp only [durZ, durD]
      split
      · rename_i h0; rw [if_pos h0] at h; exact h
      · rename_i h0
        rw [if_neg h0] at h
        split
        · first | rfl | trivial
        · rename_i h4; rw [if_neg h4] at h; exact h
  · show (countO (D.zones.map durZ) : Int) ≤ D.maxOpen
    rw [(ho _).1]; exact h3
  · show (countA (D.zones.map durZ) : Int) ≤ D.maxActive
    rw [(ho _).2]; exact h4
theorem zones_empty1 (w : World) {H : Nat} (hH : w.heap.size = H) : (w.alloc (.cells #[] 28)).ownsRow H 28 3 (.slice (some ⟨H, 0, none⟩) 0 0) 0 [] := by
  subst hH
  exact World.ownsRow_made (base := w.heap.size) (e := 28) (size := 3) w #[] 0 (Nat.le_refl _) (by unfold maxLen; decide) rfl
theorem set_same {C : List Value} {i : Nat} {u : Value} (h : C[i]? = some u) : C.set i u = C := by
  obtain ⟨hi, e⟩ := List.getElem?_eq_some_iff.1 h
  subst e
  exact List.set_getElem_self hi
/-- one zone made durable among cells -/
theorem ZCells.dur {w : World} {F : Nat → Prop} {C : List Value} {Z : List Zone} (h : ZCells w F C Z) {j : Nat} {z : Zone} (hz : Z[j]? = some z) : ZCells w F (C.set (j * 3 + 1) (.int .i64 (z.sectors.length : Int))) (Z.set j (durZ z)) := by
  obtain ⟨c1, c2, sa, sl, sc, c3, hs⟩ := h.2 j z hz
  have hk := (List.getElem?_eq_some_iff.1 hz).1
  have := h.set j hk (durZ z) (sa := sa) (sl := sl) (sc := sc) hs
  rw [show (durZ z).state = z.state from rfl, show (durZ z).durable = (z.sectors.length : Int) from rfl, set_same c1] at this
  rw [set_same (u := .slice sa sl sc) (by rw [List.getElem?_set_ne (by omega)]; exact c3)] at this
  exact this
set_option maxHeartbeats 2000000 in
set_option maxRecDepth 20000 in
theorem cmd_durable (F : Nat → Prop) (D : Dev) (a : Option Addr) (n cap base g : Nat) (zs : List Int) (k : Nat) (w : World) (hF : ∀ b, F b → b < w.heap.size) (hFg : ¬ F g) (hz : ZonesIn w F a n cap D.zones) (hn1 : 1 ≤ n) (hn : n ≤ 1000) (hc : checkE D = 0) (hd : Dice w base g zs k) (hl : zs.length ≤ 100000) (hk : k < zs.length) (hcc : nxt zs (stp zs k) 9 = 4) :
    Calls Try.prog 26 #[.pointer (some ⟨g, 0, none⟩), devV D a n cap, .int .i64 (n : Int)] w (CmdPost w F base g zs k n) := by
  have hgl := dice_lt hd
  have hlen := hz.is.length
  obtain ⟨i, hi, hin⟩ : ∃ i : Nat, nxt zs k (n : Int) = (i : Int) ∧ i < n := by
    have := nxt_range zs k (n : Int) (by omega)
    exact ⟨(nxt zs k (n : Int)).toNat, by omega, by omega⟩
  have hnx1 : ∀ W, Dice W base g zs k → Calls Try.prog 23 #[.pointer (some ⟨g, 0, none⟩), .int .i64 (n : Int)] W (NextPost W base g zs k (n : Int)) := fun W h => next_any W base g zs k n h hl (by omega) (by omega)
  have hnx2 : ∀ W, Dice W base g zs (stp zs k) → Calls Try.prog 23 #[.pointer (some ⟨g, 0, none⟩), .int .i64 9] W (NextPost W base g zs (stp zs k) 9) := fun W h => next_any W base g zs _ 9 h hl (by decide) (by decide)
  have hA : Below w.heap.size w ((w.alloc (devRow D.size D.maxOpen D.maxActive a n cap)).alloc (devRow 0 0 0 none 0 0)) := ((Below.refl _ _).alloc (Nat.le_refl _) _).alloc (by simp) _
  have ZI := Lib.hid hi
  have N1 := Lib.hid hnx1
  have N2 := Lib.hid hnx2
  have HA := Lib.hid hA
  have HZ := Lib.hid hz
  have D0 := Lib.hid (dice_alloc (dice_alloc hd (devRow D.size D.maxOpen D.maxActive a n cap)) (devRow 0 0 0 none 0 0))
  have hk' : k < stp zs (stp zs k) ∧ stp zs (stp zs k) ≤ zs.length := by
    rw [stp_step hk]
    have := stp_ge zs (k + 1)
    have := stp_end (zs := zs) (k := k + 1) (by omega)
    omega
  have HKK := Lib.hid hk'
  obtain ⟨i1, hi1, hy0, hy1, hy2⟩ := info_parts zone_info6
  obtain ⟨x, rfl⟩ : ∃ x, a = some x := by
    rcases hz with ⟨_, rfl, _, _⟩ | ⟨x, rfl, _⟩
    · omega
    · exact ⟨x, rfl⟩
  have hdv := dur_valid hc
  obtain ⟨C, hC1, hC2, hC3⟩ := hz.cells
  have hC2' := fun W (h : Agree F w W) j u (hu : C[j]? = some u) => h.cell (w := w) (x := x.add j) (by rw [add_block]; rcases hz with ⟨h0, _⟩ | ⟨x', hx', _, _, _, _, hfx, _⟩; (· cases h0); (· obtain rfl := Option.some.inj hx'; exact hfx)) (hC2 j u hu)
  have HC := Lib.hid hcc
  have HC1 := Lib.hid hC1
  have HC2 := Lib.hid hC2'
  have HC3 := Lib.hid hC3
  have HDV := Lib.hid hdv
  clear hnx1 hnx2 hA hd hi hcc hk' hC1 hC2 hC2' hC3 hdv
  unfold CmdPost
  obtain ⟨size, op, act, Z⟩ := D
  try simp only at HC1 hlen
  go_enter Try.func26, Try.ntmps26
  go_wp2_with (first
    | (go_at_call 23; ((with_reducible refine (N1.out _ D0.out).mono ?_); rintro e w1 ⟨rfl, hd1, hg1, hs1⟩; rw [ZI.out]; have hx1 := row_grown hg1 (heap_first2 w _ _) (by omega); have hr1 := row_grown hg1 (heap_second w _ _) (by omega); have t1 : w1.heap.size = w.heap.size + 1 + 1 := hs1.trans (by simp only [World.size_alloc]); have hv1 : (w1.alloc (devRow size op act (some x) n cap)).heap[w.heap.size + 1 + 1]? = some (devRow size op act (some x) n cap) := (by rw [← t1]; exact heap_alloc_new w1 (devRow size op act (some x) n cap)); have hx1' := row_al hx1 (devRow size op act (some x) n cap); have hr1' := row_al hr1 (devRow size op act (some x) n cap); obtain ⟨y1, d0, d1, d2, d3⟩ := row4 hx1; have hz1 := ((HZ.out.on (Agree.below HA.out)).on (agree_grown hg1 hFg)).on (Agree.below ((Below.refl _ _).alloc (Nat.le_refl _) (devRow size op act (some x) n cap))); have G1 := grownBy_trans (grownBy_trans (below_grown HA.out g) hg1) (World.grownBy_alloc w1 (devRow size op act (some x) n cap) (some g))))
    | (go_at_call 23; ((with_reducible refine (N2.out _ (dice_alloc hd1 _)).mono ?_); rintro e w2 ⟨rfl, hd2, hg2, hs2⟩; rw [HC.out]; have hx2 := row_grown hg2 hx1' (by omega); have hr2 := row_grown hg2 hr1' (by omega); have hv2 := row_grown hg2 hv1 (by omega); obtain ⟨y2, d0, d1, d2, d3⟩ := row4 hx2; have hz2 := hz1.on (agree_grown hg2 hFg); have t2 : w2.heap.size = w1.heap.size + 1 := hs2.trans (World.size_alloc _ _); have G2 := grownBy_trans G1 hg2; have l0 := (row4 hv2).2.1; have l1 := (row4 hv2).2.2.1; have l2 := (row4 hv2).2.2.2.1; have l3 := (row4 hv2).2.2.2.2))
    | ((with_reducible refine Plan.store_lit 24 (.tmp 8) _ (w.heap.size + 1 + 1) ?_ hv2 ?_ ?_ ?_ ?_ ?_ ?_); rotate_left; (· rfl); (· rfl); (· exact dev_info); (· rfl); (· simp [Value.oneCell']); simp only [Act.put]; have hv3 := setRow_heap _ _ _ #[.int .i64 size, .int .i64 op, .int .i64 act, .slice (some x) n cap] _ _ hv2; have hx3 := (setRow_other _ (w.heap.size + 1 + 1) w.heap.size #[.int .i64 size, .int .i64 op, .int .i64 act, .slice (some x) n cap] (by omega)).trans hx2; have hr3 := (setRow_other _ (w.heap.size + 1 + 1) (w.heap.size + 1) #[.int .i64 size, .int .i64 op, .int .i64 act, .slice (some x) n cap] (by omega)).trans hr2; have hd3 := dice_far hd2 (grownBy_setRow w2 (w.heap.size + 1 + 1) #[.int .i64 size, .int .i64 op, .int .i64 act, .slice (some x) n cap]) (by omega); have G3 := grownBy_row G2 (x := (w.heap.size + 1 + 1)) (by omega) #[.int .i64 size, .int .i64 op, .int .i64 act, .slice (some x) n cap]; generalize w2.setRow (w.heap.size + 1 + 1) #[.int .i64 size, .int .i64 op, .int .i64 act, .slice (some x) n cap] = w3 at hv3 hx3 hr3 hd3 G3 ⊢; clear d0 d1 d2 d3 l0 l1 l2 l3; have n3 := lt_of_block hv3; obtain ⟨y3, d0, d1, d2, d3⟩ := row4 hx3; obtain ⟨v3, l0, l1, l2, l3⟩ := row4 hv3; have A3 := agree_grown G3 hFg)
    | (at_builtin; have E0 := zones_empty1 w3 rfl; refine wpList_append_lies _ rfl _ _ 22 rfl w3.heap.size 28 i1 _ 3 40 Try.underlying22 hi1 hy0 hy1 hy2 rfl (by decide) _ 0 [] (by rfl) E0 x n cap C rfl (by rw [HC1.out.1, hlen]) (HC2.out _ (agree_grown (grownBy_trans G3 (World.grownBy_alloc w3 _ _)) hFg)) HC3.out (by omega) (by unfold maxLen; omega) (by omega) (by simp) _ rfl ?_; intro g7 c7 w7 hown7 hgrow7 hat7 hlt7; have O7 := owns_copy hown7; have hgrow7 : (w3.alloc (.cells #[] 28)).grownBy w7 (some w3.heap.size) := hgrow7; have hx7 := (hgrow7.block _ (lt_of_block (row_al hx3 _)) (fun e => by have := Option.some.inj e; omega)).trans (row_al hx3 (.cells #[] 28)); have hr7 := (hgrow7.block _ (lt_of_block (row_al hr3 _)) (fun e => by have := Option.some.inj e; omega)).trans (row_al hr3 (.cells #[] 28)); have hv7 := (hgrow7.block _ (lt_of_block (row_al hv3 _)) (fun e => by have := Option.some.inj e; omega)).trans (row_al hv3 (.cells #[] 28)); have hd7 := dice_far (dice_alloc hd3 (.cells #[] 28)) hgrow7 (by omega); have B7 := (Below.refl w3.heap.size (w3.alloc (.cells #[] 28))).grown hgrow7 (by simp) (fun k hk => by have := Option.some.inj hk; omega); have G7 := grownBy_below (grownBy_trans G3 (World.grownBy_alloc w3 (.cells #[] 28) (some g))) B7 (by have := G3.size; omega); have hg7 := (O7.lt g7 rfl).1; obtain ⟨v7, l0, l1, l2, l3⟩ := row4 hv7; have f7 := row_free hv7 3; clear hown7 hgrow7))
  have HZ7 := Lib.hid (HC1.out.on (agree_grown G7 hFg))
  have hx8 := (Below.heap_setCell w7 ⟨w.heap.size + 1 + 1, 3, none⟩ (.slice (some ⟨g7, 0, none⟩) n c7) w.heap.size (by show w.heap.size ≠ w.heap.size + 1 + 1; omega)).trans hx7
  have hr8 := (Below.heap_setCell w7 ⟨w.heap.size + 1 + 1, 3, none⟩ (.slice (some ⟨g7, 0, none⟩) n c7) (w.heap.size + 1) (by show w.heap.size + 1 ≠ w.heap.size + 1 + 1; omega)).trans hr7
  have hv8 : (w7.setCell ⟨w.heap.size + 1 + 1, 3, none⟩ (.slice (some ⟨g7, 0, none⟩) n c7)).heap[w.heap.size + 1 + 1]? = some (devRow size op act (some ⟨g7, 0, none⟩) n c7) := setCell_row hv7 3 (.slice (some ⟨g7, 0, none⟩) n c7)
  have O8 := ownsRow_setCell_other O7 (a := ⟨w.heap.size + 1 + 1, 3, none⟩) (fun e => by have := Option.some.inj (show some g7 = some (w.heap.size + 1 + 1) from e); omega) (.slice (some ⟨g7, 0, none⟩) n c7)
  have hd8 := dice_far hd7 (grownBy_setCell w7 ⟨w.heap.size + 1 + 1, 3, none⟩ (.slice (some ⟨g7, 0, none⟩) n c7)) (show g < w.heap.size + 1 + 1 by omega)
  have G8 := grownBy_cell G7 (p := ⟨w.heap.size + 1 + 1, 3, none⟩) (show w.heap.size ≤ w.heap.size + 1 + 1 by omega) (.slice (some ⟨g7, 0, none⟩) n c7)
  have Z8 := HZ7.out.on (Agree.setCell (p := ⟨w.heap.size + 1 + 1, 3, none⟩) (fun h => by have : w.heap.size + 1 + 1 < w.heap.size := hF _ h; omega) (.slice (some ⟨g7, 0, none⟩) n c7))
  generalize w7.setCell ⟨w.heap.size + 1 + 1, 3, none⟩ (.slice (some ⟨g7, 0, none⟩) n c7) = w8 at hx8 hr8 hv8 O8 hd8 G8 Z8 ⊢
  clear l0 l1 l2 l3 d0 d1 d2 d3 f7
  go_loopw [10] (fun c wr => ∃ (j : Nat) (C' : List Value), c = .int .i64 j ∧ j ≤ n ∧ wr.ownsRow w3.heap.size 28 3 (.slice (some ⟨g7, 0, none⟩) n c7) n C' ∧ ZCells wr F C' (durPart Z j) ∧ wr.heap[w.heap.size]? = some (devRow size op act (some x) n cap) ∧ wr.heap[w.heap.size + 1]? = some (devRow 0 0 0 none 0 0) ∧ wr.heap[w.heap.size + 1 + 1]? = some (devRow size op act (some ⟨g7, 0, none⟩) n c7) ∧ Dice wr base g zs (stp zs (stp zs k)) ∧ w.grownBy wr (some g)) (fun c _ => n - (intOf c).toNat)
  case atStart => exact ⟨0, C, rfl, by omega, O8, by rw [durPart_zero]; exact Z8, hx8, hr8, hv8, hd8, G8⟩
  case round =>
    obtain ⟨j, C', rfl, hj, hown, hzc, hx, hr, hv, hdd, hG⟩ := hrel
    obtain ⟨yv, l0, l1, l2, l3⟩ := row4 hv
    by_cases hlt : j < n
    · obtain ⟨z, hz⟩ := zone_of (D := ⟨size, op, act, Z⟩) (k := j) (by show j < Z.length; omega)
      have hzp := durPart_get (show Z[j]? = some z from hz)
      obtain ⟨c1, c2, sa, sl, sc, c3, hss⟩ := hzc.2 j z hzp
      have hsl := hss.1.length
      have hnx := ZCells.dur hzc hzp
      rw [durPart_next (show Z[j]? = some z from hz), hsl] at hnx
      have hjI : (j : Int) < (n : Int) := by omega
      have e1 := hown.cells (g := g7) rfl _ _ c2
      have e2 := hown.cells (g := g7) rfl _ _ c3
      rw [add_lit0] at e1 e2
      have f1 := owns_free5 hown (j * 3 + 1)
      go_wp2_with fail
      refine Plan.start (fun W => W.cell? ⟨w.heap.size + 1 + 1, 3, none⟩ = some (.slice (some ⟨g7, 0, none⟩) n c7) ∧ W.cell? ⟨g7, j * 3 + 2, none⟩ = some (.slice sa sl sc)) [(0, true), (1, true), (2, true), (3, true), (4, true), (5, true), (6, true), (7, true), (8, true), (9, true), (10, true), (11, true), (12, false)] (by kernel_rfl) (by kernel_rfl) (by kernel_rfl) (by kernel_rfl) ⟨l3, e2⟩ ?_
      simp only [List.map_cons, List.map_nil, List.getElem?_toArray, List.getElem?_cons_zero, List.getElem?_cons_succ]
      repeat (first | (refine Plan.take ?_ (by rfl) ?_ ?_; rotate_left; (· rintro w9 ⟨u0, u1⟩; go_simp; (try rw [if_neg (by omega)]); all_goals (with_reducible rfl)); simp only [Act.put, List.setIfInBounds_toArray, List.set_cons_zero, List.set_cons_succ]) | (refine Plan.pass (by rfl) ?_; simp only [Act.put, List.setIfInBounds_toArray, List.set_cons_zero, List.set_cons_succ]))
      have O9 := owns_cell hown (j * 3 + 1) (.int .i64 (sl : Int))
      have hx9 := (Below.heap_setCell wr.drew ⟨g7, j * 3 + 1, none⟩ (.int .i64 (sl : Int)) w.heap.size (by show w.heap.size ≠ g7; omega)).trans hx
      have hr9 := (Below.heap_setCell wr.drew ⟨g7, j * 3 + 1, none⟩ (.int .i64 (sl : Int)) (w.heap.size + 1) (by show w.heap.size + 1 ≠ g7; omega)).trans hr
      have hv9 := (Below.heap_setCell wr.drew ⟨g7, j * 3 + 1, none⟩ (.int .i64 (sl : Int)) (w.heap.size + 1 + 1) (by show w.heap.size + 1 + 1 ≠ g7; omega)).trans hv
      have hd9 := dice_far (dice_drew hdd) (grownBy_setCell wr.drew ⟨g7, j * 3 + 1, none⟩ (.int .i64 (sl : Int))) (show g < g7 by omega)
      have G9 := grownBy_cell (grownBy_trans hG (grownBy_drew wr (some g))) (p := ⟨g7, j * 3 + 1, none⟩) (show w.heap.size ≤ g7 by omega) (.int .i64 (sl : Int))
      have Z9 := (hnx.on (Agree.below (Below.refl wr.heap.size wr).drew)).on (Agree.setCell (p := ⟨g7, j * 3 + 1, none⟩) (fun h => by have : g7 < w.heap.size := hF _ h; omega) (.int .i64 (sl : Int)))
      have e3 : (wr.drew.setCell ⟨g7, j * 3 + 1, none⟩ (.int .i64 (sl : Int))).cell? ⟨g7, j * 3 + 2, none⟩ = some (.slice sa sl sc) := by
        have := O9.cells (g := g7) rfl (j * 3 + 2) (.slice sa sl sc) (by rw [List.getElem?_set_ne (by omega)]; exact c3)
        rw [add_lit0] at this
        exact this
      refine Plan.carry (by rfl) (wp_store_int 3 _ _ rfl g7 (j * 3 + 1) .i64 (sl : Int) (by rfl) (by rfl) ⟨_, e1⟩ f1 int_info1 ⟨⟨(row4 hv9).2.2.2.2, e3⟩, ?_⟩)
      simp only [Act.put]
      refine Plan.ends ?_
      go_wp2_with fail
      go_roundw
      case rel => exact ⟨j + 1, _, by go_num, by omega, O9, Z9, hx9, hr9, hv9, hd9, G9⟩
      case measure => simp [intOf]; omega
    · obtain rfl : j = n := by omega
      rw [durPart_all Z hlen] at hzc
      go_wp2_with (first
        | ((with_reducible refine Plan.store_lit 24 (.tmp 6) _ (w.heap.size + 1) ?_ hr ?_ ?_ ?_ ?_ ?_ ?_); rotate_left; (· rfl); (· rfl); (· exact dev_info); (· rfl); (· simp [Value.oneCell']); simp only [Act.put]))
      have b9 := below_setRow (Below.refl w.heap.size wr) (show w.heap.size ≤ w.heap.size + 1 by omega) #[.int .i64 size, .int .i64 op, .int .i64 act, .slice (some ⟨g7, 0, none⟩) j c7]
      have Z9 := hzc.on (Agree.row (r := w.heap.size + 1) (fun h => by have := hF _ h; omega) #[.int .i64 size, .int .i64 op, .int .i64 act, .slice (some ⟨g7, 0, none⟩) j c7])
      have O9 := owns_other (H := w.heap.size + 1) (cs := #[.int .i64 size, .int .i64 op, .int .i64 act, .slice (some ⟨g7, 0, none⟩) j c7]) hown (by omega)
      obtain ⟨-, a', cap', heq, hzz⟩ := owns_zones (F := Plus F w.heap.size) O9 (Z9.mono (fun _ _ h => .inl h)) (fun b e => .inr (by have := Option.some.inj (show some g7 = some b from e); omega))
      cases heq
      exact bodyPost_ret (results_cell_row rfl _ _ _ _ _ _ _ rfl (setRow_heap _ _ _ _ _ _ hr) Try.underlying24 rfl dev_info) rfl ⟨durD ⟨size, op, act, Z⟩, _, _, _, rfl, hzz, HDV.out, HKK.out.1, HKK.out.2, dice_far hdd (grownBy_setRow wr _ _) (by omega), grownBy_row hG (by omega) _⟩
theorem command_any (F : Nat → Prop) (D : Dev) (a : Option Addr) (n cap base g : Nat) (zs : List Int) (k : Nat) (w : World) (hF : ∀ b, F b → b < w.heap.size) (hFg : ¬ F g) (hz : ZonesIn w F a n cap D.zones) (hn1 : 1 ≤ n) (hn : n ≤ 1000) (hc : checkE D = 0) (hd : Dice w base g zs k) (hl : zs.length ≤ 100000) (hk : k < zs.length) :
    Calls Try.prog 26 #[.pointer (some ⟨g, 0, none⟩), devV D a n cap, .int .i64 (n : Int)] w (CmdPost w F base g zs k n) := by
  have hr := nxt_range zs (stp zs k) 9 (by decide)
  obtain ⟨i, hi⟩ : ∃ i : Nat, nxt zs k (n : Int) = (i : Int) := by
    have := nxt_range zs k (n : Int) (by omega)
    exact ⟨(nxt zs k (n : Int)).toNat, by omega⟩
  have hone : ∀ i' : Nat, nxt zs k (n : Int) = (i' : Int) → i' = i := fun i' h => by omega
  rcases (by omega : nxt zs (stp zs k) 9 = 0 ∨ nxt zs (stp zs k) 9 = 1 ∨ nxt zs (stp zs k) 9 = 2 ∨ nxt zs (stp zs k) 9 = 3 ∨ nxt zs (stp zs k) 9 = 4 ∨ 5 ≤ nxt zs (stp zs k) 9) with h | h | h | h | h | h
  · by_cases hE : beginE D (i : Int) = 0
    · exact cmd_reset F D a n cap base g zs k w hF hFg hz hn1 hn hc hd hl hk h (fun i' e => by rw [hone i' e]; exact hE)
    · exact cmd_reset_err F D a n cap base g zs k w hF hFg hz hn1 hn hc hd hl hk h (fun i' e => by rw [hone i' e]; exact hE)
  · by_cases hE : beginE D (i : Int) = 0
    · exact cmd_finish F D a n cap base g zs k w hF hFg hz hn1 hn hc hd hl hk h (fun i' e => by rw [hone i' e]; exact hE)
    · exact cmd_finish_err F D a n cap base g zs k w hF hFg hz hn1 hn hc hd hl hk h (fun i' e => by rw [hone i' e]; exact hE)
  · by_cases hE : openE D (i : Int) = 0
    · exact cmd_open F D a n cap base g zs k w hF hFg hz hn1 hn hc hd hl hk h (fun i' e => by rw [hone i' e]; exact hE)
    · exact cmd_open_err F D a n cap base g zs k w hF hFg hz hn1 hn hc hd hl hk h (fun i' e => by rw [hone i' e]; exact hE)
  · by_cases hE : closeE D (i : Int) = 0
    · exact cmd_close F D a n cap base g zs k w hF hFg hz hn1 hn hc hd hl hk h (fun i' e => by rw [hone i' e]; exact hE)
    · exact cmd_close_err F D a n cap base g zs k w hF hFg hz hn1 hn hc hd hl hk h (fun i' e => by rw [hone i' e]; exact hE)
  · exact cmd_durable F D a n cap base g zs k w hF hFg hz hn1 hn hc hd hl hk h
  · by_cases hE : appendE D (i : Int) ⟨(RecMath.encL (mk (madeK zs (stp zs (stp zs (stp zs k)))) (nxt zs (stp zs (stp zs (stp zs k))) 5) (1 + nxt zs (stp zs (stp zs k)) 40) 0 (madeP zs (stp zs (stp zs (stp zs k)))))).toArray⟩ = 0
    · exact cmd_append F D a n cap base g zs k w hF hFg hz hn1 hn hc hd hl hk h (fun i' s e es => by rw [hone i' e, es]; exact hE)
    · exact cmd_append_err F D a n cap base g zs k w hF hFg hz hn1 hn hc hd hl hk h (fun i' s e es => by rw [hone i' e, es]; exact hE)
end Go.Proofs.Ytlplomofgbmgaaa

/- Flushes and power failures of zoned devices as plain lists: what the functions answer, nothing of the program. -/
namespace Go.Proofs.Ytlplomofgbmgaaa.MedMath
open Go.RowKit ZnsMath

/-- as the machine reckons; 'vol_right' of a zone that is right -/
def vol (z : Zone) : Int := max 0 (wrap64 ((z.sectors.length : Int) - max 0 z.durable))
theorem vol_right {z : Zone} {size : Int} (h : rightB z size = true) (h64 : size ≤ 64) : vol z = (z.sectors.length : Int) - z.durable := by
  have hr := (right_iff _ _).1 h
  unfold vol wrap64
  omega
def keepK (z : Zone) (keep : List Int) (i : Nat) : Int := max 0 (min (keep.getD i 0) (vol z))
def stays (z : Zone) (keep : List Int) (i : Nat) : Nat := (z.durable + keepK z keep i).toNat
def failS (s : Int) (n : Nat) : Int := if s = 4 ∨ s = 5 then s else if n = 0 then 0 else 3
def failed (z : Zone) (n : Nat) : Zone := ⟨failS z.state n, n, z.sectors.take n⟩
def crashZ (keep : List Int) (i : Nat) (z : Zone) : Zone := failed z (stays z keep i)
def crashD (D : Dev) (keep : List Int) : Dev := ⟨D.size, D.maxOpen, D.maxActive, D.zones.mapIdx (crashZ keep)⟩
def crashR (D : Dev) (keep : List Int) : Dev := if checkE D = 0 then crashD D keep else zero
def syncR (D : Dev) : Dev := if checkE D = 0 then durD D else zero
def volL (D : Dev) : List Int := D.zones.map vol
/-- the first j zones of one list changed, the others of another -/
def partZ (g : Nat → Zone → Zone) (Z Y : List Zone) (j : Nat) : List Zone := (Z.take j).mapIdx g ++ Y.drop j
theorem partZ_zero (g : Nat → Zone → Zone) (Z Y : List Zone) : partZ g Z Y 0 = Y := by simp [partZ]
theorem partZ_all (g : Nat → Zone → Zone) (Z Y : List Zone) {n : Nat} (h : Z.length = n) (h2 : Y.length = n) : partZ g Z Y n = Z.mapIdx g := by
  unfold partZ
  rw [List.take_of_length_le (by omega), List.drop_of_length_le (by omega), List.append_nil]
theorem partZ_length (g : Nat → Zone → Zone) {Z Y : List Zone} (h : Y.length = Z.length) (j : Nat) : (partZ g Z Y j).length = Z.length := by
  simp [partZ]; omega
theorem partZ_get (g : Nat → Zone → Zone) {Z Y : List Zone} {j : Nat} {z : Zone} (hl : Y.length = Z.length) (h : Y[j]? = some z) : (partZ g Z Y j)[j]? = some z := by
  have hj := (List.getElem?_eq_some_iff.1 h).1
  unfold partZ
  rw [List.getElem?_append_right (by simp; omega), List.length_mapIdx, List.length_take, Nat.min_eq_left (by omega), Nat.sub_self, List.getElem?_drop]
  simpa using h
theorem partZ_next (g : Nat → Zone → Zone) {Z Y : List Zone} {j : Nat} {z : Zone} (hl : Y.length = Z.length) (h : Z[j]? = some z) : (partZ g Z Y j).set j (g j z) = partZ g Z Y (j + 1) := by
  have hj := (List.getElem?_eq_some_iff.1 h).1
  apply List.ext_getElem?
  intro i
  by_cases hij : i = j
  · subst hij
    rw [List.getElem?_set_self (by rw [partZ_length g hl]; exact hj)]
    unfold partZ
    rw [List.getElem?_append_left (by simp; omega), List.getElem?_mapIdx, List.getElem?_take, if_pos (by omega), h]
    rfl
  · rw [List.getElem?_set_ne (fun e => hij e.symm)]
    unfold partZ
    by_cases hlt : i < j
    · rw [List.getElem?_append_left (by simp; omega), List.getElem?_append_left (by simp; omega), List.getElem?_mapIdx, List.getElem?_mapIdx, List.getElem?_take, List.getElem?_take, if_pos hlt, if_pos (by omega)]
    · rw [List.getElem?_append_right (by simp; omega), List.getElem?_append_right (by simp; omega), List.length_mapIdx, List.length_mapIdx, List.length_take, List.length_take, List.getElem?_drop, List.getElem?_drop]
      congr 1
      omega
theorem vol_ge (z : Zone) : 0 ≤ vol z := by unfold vol; omega
def syncZ (_ : Nat) (z : Zone) : Zone := durZ z
theorem map_idx (Z : List Zone) : Z.map durZ = Z.mapIdx syncZ := by
  apply List.ext_getElem?
  intro i
  rw [List.getElem?_map, List.getElem?_mapIdx]
  rfl
/-- what stays of a right zone -/
theorem stays_eq {z : Zone} {size : Int} (h : rightB z size = true) (h64 : size ≤ 64) (keep : List Int) (i : Nat) : (stays z keep i : Int) = z.durable + keepK z keep i ∧ z.durable ≤ stays z keep i ∧ stays z keep i ≤ z.sectors.length ∧ keepK z keep i = max 0 (min (keep.getD i 0) (z.sectors.length - z.durable)) := by
  have hr := (right_iff _ _).1 h
  have hv := vol_right h h64
  have hk : keepK z keep i = max 0 (min (keep.getD i 0) (z.sectors.length - z.durable)) := by unfold keepK; rw [hv]
  unfold stays
  rw [hk]
  omega
theorem take_sizes {L : List ByteArray} (h : sizesB L = true) (n : Nat) : sizesB (L.take n) = true := by
  unfold sizesB at h ⊢
  rw [List.all_eq_true] at h ⊢
  exact fun s hs => h s (List.mem_of_mem_take hs)
theorem failed_right {z : Zone} {size : Int} (h : rightB z size = true) (n : Nat) (h2 : n ≤ z.sectors.length) : rightB (failed z n) size = true := by
  have hr := (right_iff _ _).1 h
  obtain ⟨⟨a1, a2, a3, a4, a5⟩, a6, a7⟩ := hr
  have hl : (z.sectors.take n).length = n := by rw [List.length_take]; omega
  have e : failS z.state n = z.state ∧ (z.state = 4 ∨ z.state = 5) ∨ failS z.state n = 0 ∧ n = 0 ∧ ¬ (z.state = 4 ∨ z.state = 5) ∨ failS z.state n = 3 ∧ n ≠ 0 ∧ ¬ (z.state = 4 ∨ z.state = 5) := by
    unfold failS
    by_cases h4 : z.state = 4 ∨ z.state = 5
    · rw [if_pos h4]; exact .inl ⟨rfl, h4⟩
    · rw [if_neg h4]
      by_cases hn : n = 0
      · rw [if_pos hn]; exact .inr (.inl ⟨rfl, hn, h4⟩)
      · rw [if_neg hn]; exact .inr (.inr ⟨rfl, hn, h4⟩)
  rw [right_iff]
  unfold failed
  simp only [hl]
  generalize failS z.state n = f at e ⊢
  refine ⟨by omega, take_sizes a6 n, ?_⟩
  by_cases c0 : z.state = 0 ∨ z.state = 5
  · rw [if_pos c0] at a7
    split
    · omega
    · split
      · trivial
      · omega
  · rw [if_neg c0] at a7
    by_cases c4 : z.state = 4
    · rw [if_neg (by omega), if_pos (by omega)]; trivial
    · rw [if_neg c4] at a7
      split
      · omega
      · split
        · omega
        · omega
theorem failed_open (z : Zone) (n : Nat) (h : openB (failed z n).state = true) : openB z.state = true := by
  have := open_state h
  simp only [failed, failS] at this
  split at this
  · omega
  · split at this <;> omega
theorem failed_active {z : Zone} {size : Int} (hr : rightB z size = true) {n : Nat} (hn : n ≤ z.sectors.length) (h : activeB (failed z n).state = true) : activeB z.state = true := by
  have h1 := act_state h
  obtain ⟨⟨a1, a2, a3, a4, a5⟩, a6, a7⟩ := (right_iff _ _).1 hr
  simp only [failed, failS] at h1
  split at h1
  · omega
  · split at h1
    · omega
    · rename_i g1 g2
      have : z.state ≠ 0 := fun h0 => by rw [if_pos (.inl h0)] at a7; omega
      have : z.state = 1 ∨ z.state = 2 ∨ z.state = 3 := by omega
      rcases this with e | e | e <;> rw [e] <;> rfl
theorem counts_idx : ∀ (Z : List Zone) (g : Nat → Zone → Zone), (∀ i z, z ∈ Z → (openB (g i z).state = true → openB z.state = true) ∧ (activeB (g i z).state = true → activeB z.state = true)) → countO (Z.mapIdx g) ≤ countO Z ∧ countA (Z.mapIdx g) ≤ countA Z
  | [], _, _ => ⟨Nat.le_refl _, Nat.le_refl _⟩
  | z :: Z, g, h => by
    rw [List.mapIdx_cons, countO_cons, countA_cons, countO_cons, countA_cons]
    have ih := counts_idx Z (fun i => g (i + 1)) (fun i y hy => h (i + 1) y (List.mem_cons_of_mem _ hy))
    have h0 := h 0 z (List.mem_cons_self ..)
    refine ⟨Nat.add_le_add ?_ ih.1, Nat.add_le_add ?_ ih.2⟩
    · by_cases c : openB (g 0 z).state = true
      · rw [if_pos c, if_pos (h0.1 c)]; exact Nat.le_refl _
      · rw [if_neg c]; exact Nat.zero_le _
    · by_cases c : activeB (g 0 z).state = true
      · rw [if_pos c, if_pos (h0.2 c)]; exact Nat.le_refl _
      · rw [if_neg c]; exact Nat.zero_le _
theorem crash_valid {D : Dev} (hc : checkE D = 0) (keep : List Int) : checkE (crashD D keep) = 0 := by
  obtain ⟨h1, h2, h3, h4⟩ := check_parts hc
  have hp := config_parts h1
  have h2' := h2
  unfold rightsB at h2'
  rw [List.all_eq_true] at h2'
  have hcn := counts_idx D.zones (crashZ keep) (fun i z hz => ⟨failed_open z _, failed_active (h2' z hz) (stays_eq (h2' z hz) (by omega) keep i).2.2.1⟩)
  refine check_of ?_ ?_ ?_ ?_
  · rw [configB_eq] at h1 ⊢
    simpa [crashD] using h1
  · unfold rightsB
    rw [List.all_eq_true]
    intro y hy
    obtain ⟨i, hi, rfl⟩ := List.mem_mapIdx.1 hy
    have hz := h2' _ (List.getElem_mem hi)
    have hs := stays_eq hz (by omega) keep i
    exact failed_right hz _ hs.2.2.1
  · show (countO (D.zones.mapIdx (crashZ keep)) : Int) ≤ D.maxOpen
    omega
  · show (countA (D.zones.mapIdx (crashZ keep)) : Int) ≤ D.maxActive
    omega
theorem crash_get {D : Dev} {i : Nat} {z : Zone} (h : D.zones[i]? = some z) (keep : List Int) : (crashD D keep).zones[i]? = some (crashZ keep i z) := by
  show (D.zones.mapIdx (crashZ keep))[i]? = _
  rw [List.getElem?_mapIdx, h]; rfl
/-- a second power failure changes nothing -/
theorem crash_twice {D : Dev} (hc : checkE D = 0) (keep more : List Int) : crashD (crashD D keep) more = crashD D keep := by
  obtain ⟨h1, h2, -, -⟩ := check_parts hc
  have hp := config_parts h1
  unfold crashD
  simp only
  congr 1
  apply List.ext_getElem?
  intro i
  rw [List.getElem?_mapIdx, List.getElem?_mapIdx]
  cases hz : D.zones[i]? with
  | none => rfl
  | some z =>
    have hr := right_all h2 hz
    have hs := stays_eq hr (by omega) keep i
    simp only [Option.map_some]
    congr 1
    have hl : (crashZ keep i z).sectors.length = stays z keep i := by
      show (z.sectors.take _).length = _
      rw [List.length_take]; omega
    have hd : (crashZ keep i z).durable = stays z keep i := rfl
    have hst : stays (crashZ keep i z) more i = stays z keep i := by
      have hv : vol (crashZ keep i z) = 0 := by unfold vol wrap64; rw [hl, hd]; omega
      have hk : keepK (crashZ keep i z) more i = 0 := by unfold keepK; rw [hv]; omega
      unfold stays
      rw [hk, hd]
      unfold stays
      omega
    unfold crashZ at hst ⊢
    rw [show failed (failed z (stays z keep i)) (stays (failed z (stays z keep i)) more i) = failed (failed z (stays z keep i)) (stays z keep i) by rw [hst]]
    generalize stays z keep i = n
    unfold failed failS
    simp only [List.take_take, Nat.min_self, Zone.mk.injEq, and_true]
    by_cases c : z.state = 4 ∨ z.state = 5
    · rw [if_pos c, if_pos c]
    · rw [if_neg c]
      by_cases c2 : n = 0
      · rw [if_pos c2, if_neg (by omega)]
      · rw [if_neg c2, if_neg (by omega)]
end Go.Proofs.Ytlplomofgbmgaaa.MedMath

/- The walk of the maker's Odd. -/
namespace Go.Proofs.Ytlplomofgbmgaaa
open Go.RowKit Plan ZnsMath

/-- a device, whatever -/
def AnyDev (w : World) (e : Ending) (w' : World) : Prop :=
  ∃ (D : Dev) (a : Option Addr) (n cap : Nat), e = .returned (devV D a n cap) ∧ IsZones w' a n cap D.zones ∧ Below w.heap.size w w' ∧ n ≤ 1000
theorem run_store_slice (w : World) (ty : TypeId) (b o : Nat) (sa : Option Addr) (sl sc : Nat) (hc : ∃ u, w.cell? ⟨b, o, none⟩ = some u) (hf : w.frozen? ⟨b, o, none⟩ = false) (hi : (Try.prog.info? ty).map (·.size) = some 1) :
    (storeVar ty ⟨b, o, none⟩ (.slice sa sl sc)).run Try.prog w = .ok () (w.setCell ⟨b, o, none⟩ (.slice sa sl sc)) := by
  obtain ⟨u, hu⟩ := hc
  cases hq : Try.prog.info? ty with
  | none => simp [hq] at hi
  | some i =>
    have hs : i.size = 1 := by simpa [hq] using hi
    have hst := run_store Try.prog w ⟨b, o, none⟩ (.slice sa sl sc) .plain rfl
    rw [hu, hf] at hst
    simp only [Bool.false_eq_true, if_false] at hst
    have ha : (⟨b, o, none⟩ : Addr).add 0 = ⟨b, o, none⟩ := by rw [Addr.add_lit, Nat.add_zero]
    simp [storeVar, sizeOf, typeInfo, hq, Value.cells, hs, storeCells, ha, hst]
theorem wp_store_slice {op : Oper} {a : Act} {w : World} {K : Act → World → Prop} {Q : Exit → Act → World → Prop} (ty : TypeId) (x y : Operand) (ho : op.op = .store ty x y)
    (b o : Nat) (sa : Option Addr) (sl sc : Nat) (hx : a.eval x = .pointer (some ⟨b, o, none⟩)) (hy : a.eval y = .slice sa sl sc) (hc : ∃ u, w.cell? ⟨b, o, none⟩ = some u) (hf : w.frozen? ⟨b, o, none⟩ = false) (hi : (Try.prog.info? ty).map (·.size) = some 1)
    (h : K (a.put op.dst undef) (w.setCell ⟨b, o, none⟩ (.slice sa sl sc))) : op.wp Try.prog a w K Q := by
  unfold Oper.wp execOp
  simp only [ho, hx, hy, Instr.storeAt, Instr.sureAddr, Sem.run_bind, Sem.run_pure, Result.andThen_ok, run_store_slice w ty b o sa sl sc hc hf hi]
  exact h
theorem store_int_lit {ops : Array Oper} {rest : List Oper} {a : Act} {w : World} {Q : Exit → Act → World → Prop} (ty : TypeId) (x y : Operand) {t' : TypeId} {pos : String} {after : Array Edge}
    (b o : Nat) (k : IntKind) (n : Int) (hx : a.eval x = .pointer (some ⟨b, o, none⟩)) (hy : a.eval y = .int k n) (hc : ∃ u, w.cell? ⟨b, o, none⟩ = some u) (hf : w.frozen? ⟨b, o, none⟩ = false) (hi : (Try.prog.info? ty).map (·.size) = some 1)
    (h : wpList Try.prog ops Q rest (a.put none undef) (w.setCell ⟨b, o, none⟩ (.int k n))) : wpList Try.prog ops Q (⟨none, .store ty x y, t', pos, after, none⟩ :: rest) a w :=
  wpList_plain rfl fun _ hK => wp_store_int ty x y rfl b o k n hx hy hc hf hi (hK _ _ h)
theorem store_slice_lit {ops : Array Oper} {rest : List Oper} {a : Act} {w : World} {Q : Exit → Act → World → Prop} (ty : TypeId) (x y : Operand) {t' : TypeId} {pos : String} {after : Array Edge}
    (b o : Nat) (sa : Option Addr) (sl sc : Nat) (hx : a.eval x = .pointer (some ⟨b, o, none⟩)) (hy : a.eval y = .slice sa sl sc) (hc : ∃ u, w.cell? ⟨b, o, none⟩ = some u) (hf : w.frozen? ⟨b, o, none⟩ = false) (hi : (Try.prog.info? ty).map (·.size) = some 1)
    (h : wpList Try.prog ops Q rest (a.put none undef) (w.setCell ⟨b, o, none⟩ (.slice sa sl sc))) : wpList Try.prog ops Q (⟨none, .store ty x y, t', pos, after, none⟩ :: rest) a w :=
  wpList_plain rfl fun _ hK => wp_store_slice ty x y rfl b o sa sl sc hx hy hc hf hi (hK _ _ h)
theorem zone_slice_info1 : (Try.prog.info? 22).map (·.size) = some 1 := by kernel_rfl
theorem str_slice_info1 : (Try.prog.info? 26).map (·.size) = some 1 := by kernel_rfl
theorem odd_end {w wE : World} {F : Nat → Prop} {B g n c r : Nat} {C : List Value} {Z : List Zone} (O : wE.ownsRow B 28 3 (.slice (some ⟨g, 0, none⟩) n c) n C) (hz : ZCells wE F C Z) (hF : ¬ F r) (hg : g ≠ r) (hr : w.heap.size ≤ r) (b : Below w.heap.size w wE) (cs : Array Value) :
    IsZones (wE.setRow r cs) (some ⟨g, 0, none⟩) n c Z ∧ Below w.heap.size w (wE.setRow r cs) := by
  refine ⟨?_, below_setRow b hr cs⟩
  obtain ⟨-, a', cap', heq, h⟩ := owns_zones (F := fun _ => True) (owns_other (H := r) (cs := cs) O hg) ((hz.on (Agree.row hF cs)).mono (fun _ _ _ => trivial)) (fun _ _ => trivial)
  cases heq
  exact h.is
theorem odd_cells {w : World} {F : Nat → Prop} {B g n c j : Nat} {C : List Value} {Z : List Zone} {z : Zone} (O : w.ownsRow B 28 3 (.slice (some ⟨g, 0, none⟩) n c) n C) (hz : ZCells w F C Z) (hj : Z[j]? = some z) :
    w.cell? ⟨g, j * 3, none⟩ = some (.int .i64 z.state) ∧ w.cell? ⟨g, j * 3 + 1, none⟩ = some (.int .i64 z.durable) ∧ (∃ sa sl sc, w.cell? ⟨g, j * 3 + 2, none⟩ = some (.slice sa sl sc) ∧ StrsIn w F sa sl sc z.sectors) ∧
    w.frozen? ⟨g, j * 3, none⟩ = false ∧ w.frozen? ⟨g, j * 3 + 1, none⟩ = false ∧ w.frozen? ⟨g, j * 3 + 2, none⟩ = false := by
  obtain ⟨c1, c2, sa, sl, sc, c3, hs⟩ := hz.2 j z hj
  have e0 := O.cells (g := g) rfl _ _ c1
  have e1 := O.cells (g := g) rfl _ _ c2
  have e2 := O.cells (g := g) rfl _ _ c3
  rw [add_lit0] at e0 e1 e2
  exact ⟨e0, e1, ⟨sa, sl, sc, e2, hs⟩, owns_free5 O _, owns_free5 O _, owns_free5 O _⟩
theorem zowns_on {w w' : World} {B sz n : Nat} {t : TypeId} {v : Value} {xs : List Value} (h : w.ownsRow B t sz v n xs) (hb : Below w.heap.size w w') : w'.ownsRow B t sz v n xs := by
  refine h.kept (row := none) ⟨hb.os, hb.tape, hb.output, hb.size, fun i hi _ => hb.block i hi⟩ ?_
  cases v.ownBlock <;> simp
theorem set_at {Z : List Zone} {j : Nat} {z y : Zone} (h : Z[j]? = some z) : (Z.set j y)[j]? = some y := List.getElem?_set_self (List.getElem?_eq_some_iff.1 h).1
theorem ZCells.st {w : World} {F : Nat → Prop} {C : List Value} {Z : List Zone} (h : ZCells w F C Z) {j : Nat} {z : Zone} (hz : Z[j]? = some z) (v : Int) : ZCells w F (C.set (j * 3) (.int .i64 v)) (Z.set j ⟨v, z.durable, z.sectors⟩) := by
  obtain ⟨c1, c2, sa, sl, sc, c3, hs⟩ := h.2 j z hz
  have := h.set j (List.getElem?_eq_some_iff.1 hz).1 ⟨v, z.durable, z.sectors⟩ (sa := sa) (sl := sl) (sc := sc) hs
  rw [set_same (i := j * 3 + 1) (u := .int .i64 z.durable) (by rw [List.getElem?_set_ne (by omega)]; exact c2)] at this
  rw [set_same (u := .slice sa sl sc) (by rw [List.getElem?_set_ne (by omega)]; exact c3)] at this
  exact this
theorem ZCells.du {w : World} {F : Nat → Prop} {C : List Value} {Z : List Zone} (h : ZCells w F C Z) {j : Nat} {z : Zone} (hz : Z[j]? = some z) (v : Int) : ZCells w F (C.set (j * 3 + 1) (.int .i64 v)) (Z.set j ⟨z.state, v, z.sectors⟩) := by
  obtain ⟨c1, c2, sa, sl, sc, c3, hs⟩ := h.2 j z hz
  have := h.set j (List.getElem?_eq_some_iff.1 hz).1 ⟨z.state, v, z.sectors⟩ (sa := sa) (sl := sl) (sc := sc) hs
  rw [set_same (i := j * 3) (u := .int .i64 z.state) c1] at this
  rw [set_same (u := .slice sa sl sc) (by rw [List.getElem?_set_ne (by omega)]; exact c3)] at this
  exact this
theorem ZCells.se {w : World} {F : Nat → Prop} {C : List Value} {Z : List Zone} (h : ZCells w F C Z) {j : Nat} {z : Zone} (hz : Z[j]? = some z) {sa : Option Addr} {sl sc : Nat} {L : List ByteArray} (hs : StrsIn w F sa sl sc L) : ZCells w F (C.set (j * 3 + 2) (.slice sa sl sc)) (Z.set j ⟨z.state, z.durable, L⟩) := by
  obtain ⟨c1, c2, _, _, _, c3, _⟩ := h.2 j z hz
  have := h.set j (List.getElem?_eq_some_iff.1 hz).1 ⟨z.state, z.durable, L⟩ (sa := sa) (sl := sl) (sc := sc) hs
  rw [set_same (i := j * 3) (u := .int .i64 z.state) c1, set_same (i := j * 3 + 1) (u := .int .i64 z.durable) c2] at this
  exact this
set_option maxHeartbeats 2000000 in
set_option maxRecDepth 20000 in
theorem odd_any (D : Dev) (a : Option Addr) (n cap : Nat) (p1 p2 p3 : Int) (w : World) (hz0 : IsZones w a n cap D.zones) (hc : checkE D = 0) (hn1 : 1 ≤ n) (hn : n ≤ 1000) :
    Calls Try.prog 11 #[devV D a n cap, .int .i64 p1, .int .i64 p2, .int .i64 p3] w (AnyDev w) := by
  obtain ⟨i1, hi1, hy0, hy1, hy2⟩ := info_parts zone_info6
  have hz := ZonesIn.of hz0
  obtain ⟨x, rfl⟩ : ∃ x, a = some x := by
    rcases hz with ⟨_, rfl, _, _⟩ | ⟨x, rfl, _⟩
    · omega
    · exact ⟨x, rfl⟩
  have hlen := hz.is.length
  have hA : Below w.heap.size w ((w.alloc (devRow D.size D.maxOpen D.maxActive (some x) n cap)).alloc (devRow 0 0 0 none 0 0)) := ((Below.refl _ _).alloc (Nat.le_refl _) _).alloc (by simp) _
  obtain ⟨C, hC1, hC2', hC3⟩ := hz.cells
  have hC2 := fun W (hb : Below w.heap.size w W) j u (hu : C[j]? = some u) => (hb.cell (block_lt_of_cell (hC2' j u hu))).trans (hC2' j u hu)
  obtain ⟨j, hj, hjn⟩ : ∃ j : Nat, p2 % (n : Int) = (j : Int) ∧ j < n := by
    have h1 := Int.emod_nonneg p2 (show (n : Int) ≠ 0 by omega)
    have h2 := Int.emod_lt_of_pos p2 (show (0 : Int) < n by omega)
    exact ⟨(p2 % (n : Int)).toNat, by omega, by omega⟩
  have hj2 := fun W => mod_any p2 (n : Int) (by omega) (by omega) W
  rw [hj] at hj2
  have hk2 := fun W => mod_any p1 9 (by decide) (by decide) W
  have hkr : 0 ≤ p1 % 9 ∧ p1 % 9 < 9 := ⟨Int.emod_nonneg _ (by decide), Int.emod_lt_of_pos _ (by decide)⟩
  generalize p1 % 9 = kd at hk2 hkr
  have hm8 := fun W => mod_any p3 8 (by decide) (by decide) W
  have hm5 := fun W => mod_any p3 5 (by decide) (by decide) W
  have hm6 := fun W => mod_any p3 6 (by decide) (by decide) W
  generalize p3 % 8 = m8 at hm8
  generalize p3 % 5 = m5 at hm5
  generalize p3 % 6 = m6 at hm6
  have HJ := Lib.hid hj2
  have HK := Lib.hid hk2
  have H8 := Lib.hid hm8
  have H5 := Lib.hid hm5
  have H6 := Lib.hid hm6
  have HA := Lib.hid hA
  have HC1 := Lib.hid hC1
  have HC2 := Lib.hid hC2
  have HC3 := Lib.hid hC3
  clear hj2 hk2 hm8 hm5 hm6 hA hC1 hC2 hC2' hC3 hj
  unfold AnyDev
  have HCK := Lib.hid hc
  clear hc
  obtain ⟨size, op, act, Z⟩ := D
  try simp only at HC1 hlen hz
  have hjI : (j : Int) < (n : Int) := by omega
  have hn0 : ((n : Int) == 0) = false := by simp; omega
  have hx3 := heap_first2 w (devRow size op act (some x) n cap) (devRow 0 0 0 none 0 0)
  have hr3 := heap_second w (devRow size op act (some x) n cap) (devRow 0 0 0 none 0 0)
  go_enter Try.func11, Try.ntmps11
  generalize hw3 : (w.alloc (devRow size op act (some x) n cap)).alloc (devRow 0 0 0 none 0 0) = w3 at *
  obtain ⟨v3, k0, k1, k2, k3⟩ := row4 hx3
  go_wp2_with (first
    | (at_builtin; have s3 : w3.heap.size = w.heap.size + 1 + 1 := (by rw [← hw3]; simp only [World.size_alloc]); have E0 := zones_empty1 w3 rfl; refine wpList_append_lies _ rfl _ _ 22 rfl w3.heap.size 28 i1 _ 3 40 Try.underlying22 hi1 hy0 hy1 hy2 rfl (by decide) _ 0 [] (by rfl) E0 x n cap C rfl (by rw [HC1.out.1, hlen]) (HC2.out _ (HA.out.alloc HA.out.size _)) HC3.out (by omega) (by unfold maxLen; omega) (by omega) (by simp) _ rfl ?_; intro g7 c7 w7 hown7 hgrow7 hat7 hlt7; have O7 := owns_copy hown7; have hgrow7 : (w3.alloc (.cells #[] 28)).grownBy w7 (some w3.heap.size) := hgrow7; have hx7 := (hgrow7.block _ (lt_of_block (row_al hx3 _)) (fun e => by have := Option.some.inj e; omega)).trans (row_al hx3 (.cells #[] 28)); have hr7 := (hgrow7.block _ (lt_of_block (row_al hr3 _)) (fun e => by have := Option.some.inj e; omega)).trans (row_al hr3 (.cells #[] 28)); have b7 := (HA.out.alloc HA.out.size (.cells #[] 28)).grown hgrow7 (by simp; omega) (fun k hk => by have := Option.some.inj hk; omega); have hg7 := (O7.lt g7 rfl).1; obtain ⟨v7, l0, l1, l2, l3⟩ := row4 hx7; have f7 := row_free hx7 3; clear hown7 hgrow7)
    | ((with_reducible refine store_slice_lit 22 (.tmp 14) _ w.heap.size 3 (some ⟨g7, 0, none⟩) n c7 ?_ ?_ ⟨_, l3⟩ f7 zone_slice_info1 ?_); (· rfl); (· rfl); simp only [Act.put]; have hx8 : (w7.setCell ⟨w.heap.size, 3, none⟩ (.slice (some ⟨g7, 0, none⟩) n c7)).heap[w.heap.size]? = some (devRow size op act (some ⟨g7, 0, none⟩) n c7) := setCell_row hx7 3 (.slice (some ⟨g7, 0, none⟩) n c7); have hr8 := (Below.heap_setCell w7 ⟨w.heap.size, 3, none⟩ (.slice (some ⟨g7, 0, none⟩) n c7) (w.heap.size + 1) (by show w.heap.size + 1 ≠ w.heap.size; omega)).trans hr7; have b8 := b7.setCell (show w.heap.size ≤ (⟨w.heap.size, 3, none⟩ : Addr).block from Nat.le_refl _) (.slice (some ⟨g7, 0, none⟩) n c7); have O8 := ownsRow_setCell_other O7 (a := ⟨w.heap.size, 3, none⟩) (fun e => by have := Option.some.inj (show some g7 = some w.heap.size from e); omega) (.slice (some ⟨g7, 0, none⟩) n c7); generalize w7.setCell ⟨w.heap.size, 3, none⟩ (.slice (some ⟨g7, 0, none⟩) n c7) = w8 at hx8 hr8 b8 O8 ⊢; clear l0 l1 l2 l3 f7; obtain ⟨v8, l0, l1, l2, l3⟩ := row4 hx8))
  refine Plan.start (fun W => W.cell? ⟨w.heap.size, 3, none⟩ = some (.slice (some ⟨g7, 0, none⟩) n c7)) [(0, true), (1, true), (2, true), (3, true), (4, true), (5, true), (6, false), (7, true), (8, true)] (by kernel_rfl) (by kernel_rfl) (by kernel_rfl) (by kernel_rfl) l3 ?_
  simp only [List.map_cons, List.map_nil, List.getElem?_toArray, List.getElem?_cons_zero, List.getElem?_cons_succ]
  repeat (first | (refine Plan.take ?_ (by rfl) ?_ ?_; rotate_left; (· rintro w9 u0; go_simp; (try rw [if_neg (by omega)]); all_goals (with_reducible rfl)); simp only [Act.put, List.setIfInBounds_toArray, List.set_cons_zero, List.set_cons_succ]) | (refine Plan.pass (by rfl) ?_; simp only [Act.put, List.setIfInBounds_toArray, List.set_cons_zero, List.set_cons_succ]))
  refine Plan.call (by rfl) 16 _ ?_ (HJ.out _) ?_
  · go_simp
  rintro e w8' ⟨rfl, rfl⟩
  refine ⟨_, rfl, l3, ?_⟩
  simp only [Act.put, List.setIfInBounds_toArray, List.set_cons_zero, List.set_cons_succ]
  repeat (first | (refine Plan.take ?_ (by rfl) ?_ ?_; rotate_left; (· rintro w9 u0; go_simp; (try rw [if_neg (by omega)]); all_goals (with_reducible rfl)); simp only [Act.put, List.setIfInBounds_toArray, List.set_cons_zero, List.set_cons_succ]) | (refine Plan.pass (by rfl) ?_; simp only [Act.put, List.setIfInBounds_toArray, List.set_cons_zero, List.set_cons_succ]))
  refine Plan.ends ?_
  obtain ⟨z, hzk⟩ := zone_of (D := ⟨size, op, act, Z⟩) (k := j) (by show j < Z.length; omega)
  have hzk : Z[j]? = some z := hzk
  have hx9 : w8.drew.heap[w.heap.size]? = some (devRow size op act (some ⟨g7, 0, none⟩) n c7) := hx8
  have hr9 : w8.drew.heap[w.heap.size + 1]? = some (devRow 0 0 0 none 0 0) := hr8
  have b9 := b8.drew
  have O9 : w8.drew.ownsRow w3.heap.size 28 3 (.slice (some ⟨g7, 0, none⟩) n c7) n C := O8
  have Z9 := (HC1.out.on (Agree.below b9)).mono (G := (fun b => b ≠ w.heap.size + 1 ∧ b ≠ g7 ∧ b ≠ w.heap.size)) (fun b _ h => ⟨by omega, by omega, by omega⟩)
  have hgne : g7 ≠ w.heap.size + 1 := by omega
  have hgnw : g7 ≠ w.heap.size := by omega
  clear hx8 hr8 b8 O8 l0 l1 l2 l3 HC1 HC2 HC3 hz
  generalize w8.drew = w9 at hx9 hr9 b9 O9 Z9 ⊢
  generalize w3.heap.size = B at O9
  obtain ⟨v9, l0, l1, l2, l3⟩ := row4 hx9
  obtain ⟨e0, e1, ⟨sa, sl, sc, e2, hss⟩, f0, f1, f2⟩ := odd_cells O9 Z9 hzk
  have g0 := row_free hx9 0
  have g1 := row_free hx9 1
  have g2 := row_free hx9 2
  have g3 := row_free hx9 3
  have hfin : ¬ (fun b => b ≠ w.heap.size + 1 ∧ b ≠ g7 ∧ b ≠ w.heap.size) (w.heap.size + 1) := fun h => h.1 rfl
  have hlt9 : g7 < w9.heap.size := (O9.lt g7 rfl).2
  have hsl := hss.1.length
  have hslm : sl ≤ 1000000 := zone_small HCK.out hzk hsl
  rcases (by omega : kd = 0 ∨ kd = 1 ∨ kd = 2 ∨ kd = 3 ∨ kd = 4 ∨ kd = 5 ∨ kd = 6 ∨ kd = 7 ∨ kd = 8) with rfl | rfl | rfl | rfl | rfl | rfl | rfl | rfl | rfl
  · go_wp2_with (first
      | (go_at_call 16; ((with_reducible refine (HK.out _).mono ?_); rintro e wk ⟨rfl, rfl⟩; clear HK))
      | (go_at_call 16; ((with_reducible refine (H8.out _).mono ?_); rintro e wk ⟨rfl, rfl⟩))
      | ((with_reducible refine store_int_lit 3 (.tmp 37) _ g7 (j * 3) .i64 (wrap64 (m8 - 1)) ?_ ?_ ⟨_, e0⟩ f0 int_info1 ?_); (· rfl); (· rfl); simp only [Act.put]; have hx10 := (Below.heap_setCell w9 ⟨g7, j * 3, none⟩ (.int .i64 (wrap64 (m8 - 1))) w.heap.size (by show w.heap.size ≠ g7; omega)).trans hx9; have hr10 := (Below.heap_setCell w9 ⟨g7, j * 3, none⟩ (.int .i64 (wrap64 (m8 - 1))) (w.heap.size + 1) (by show w.heap.size + 1 ≠ g7; omega)).trans hr9; have b10 := b9.setCell (show w.heap.size ≤ (⟨g7, j * 3, none⟩ : Addr).block by show w.heap.size ≤ g7; omega) (.int .i64 (wrap64 (m8 - 1))); have O10 := owns_cell O9 (j * 3) (.int .i64 (wrap64 (m8 - 1))); have Z10 := (Z9.st hzk (wrap64 (m8 - 1))).on (Agree.setCell (p := ⟨g7, j * 3, none⟩) (fun h => h.2.1 rfl) (.int .i64 (wrap64 (m8 - 1)))); generalize w9.setCell ⟨g7, j * 3, none⟩ (.int .i64 (wrap64 (m8 - 1))) = w10 at hx10 hr10 b10 O10 Z10 ⊢; clear l0 l1 l2 l3; obtain ⟨v10, l0, l1, l2, l3⟩ := row4 hx10)
      | ((with_reducible refine Plan.store_lit 24 (.tmp 8) _ (w.heap.size + 1) ?_ hr10 ?_ ?_ ?_ ?_ ?_ ?_); rotate_left; (· rfl); (· rfl); (· exact dev_info); (· rfl); (· simp [Value.oneCell']); simp only [Act.put]))
    have hend := odd_end (r := w.heap.size + 1) O10 Z10 hfin hgne (by omega) b10 #[.int .i64 size, .int .i64 op, .int .i64 act, .slice (some ⟨g7, 0, none⟩) n c7]
    exact bodyPost_ret (results_cell_row rfl _ _ _ _ _ _ _ rfl (setRow_heap _ _ _ _ _ _ hr10) Try.underlying24 rfl dev_info) rfl ⟨⟨size, op, act, _⟩, _, _, _, rfl, hend.1, hend.2, hn⟩
  · go_wp2_with (first | (go_at_call 16; ((with_reducible refine (HK.out _).mono ?_); rintro e wk ⟨rfl, rfl⟩; clear HK)))
    refine Tree.start (fun _ => True) (.take 0 (.take 1 (.take 2 (.take 3 (.take 5 (.fork 4 (.only 6 (.take 7 (.take 8 (.take 9 (.take 10 (.only 11 (.done))))))) 6 (.only 4 (.take 7 (.take 8 (.take 9 (.take 10 (.only 11 (.done))))))))))))) (by kernel_rfl) (by kernel_rfl) (by kernel_rfl) (by kernel_rfl) trivial ?_
    simp only [Tree.T.map, List.getElem?_toArray, List.getElem?_cons_zero, List.getElem?_cons_succ]
    have e1d : w9.drew.cell? ⟨g7, j * 3 + 1, none⟩ = some (.int .i64 z.durable) := e1
    repeat (first | (refine Tree.take ?_ (by rfl) ?_ ?_; rotate_left; (· rintro w9 -; go_simp; (try rw [if_neg (by omega)]); all_goals (with_reducible rfl)); simp only [Act.put, List.setIfInBounds_toArray, List.set_cons_zero, List.set_cons_succ]))
    refine Tree.fork (by rfl) (by rfl) ?_ ?_
    · refine Tree.wp_make (.int .i64 z.durable) w9.drew ?_ ?_
      · go_simp
        try (with_reducible rfl)
      refine ⟨trivial, ?_⟩
      simp only [Act.put, List.setIfInBounds_toArray, List.set_cons_zero, List.set_cons_succ]
      refine Tree.only (by rfl) ?_
      refine Tree.wp_call 16 _ ?_ (H5.out _) ?_
      · go_simp
      rintro e w9' ⟨rfl, rfl⟩
      refine ⟨_, rfl, trivial, ?_⟩
      simp only [Act.put, List.setIfInBounds_toArray, List.set_cons_zero, List.set_cons_succ]
      repeat (first | (refine Tree.take ?_ (by rfl) ?_ ?_; rotate_left; (· rintro w9 -; go_simp; (try rw [if_neg (by omega)]); all_goals (with_reducible rfl)); simp only [Act.put, List.setIfInBounds_toArray, List.set_cons_zero, List.set_cons_succ]))
      refine Tree.only (by rfl) (wp_store_int 3 _ _ rfl g7 (j * 3 + 1) .i64 (IntKind.i64.wrap (IntKind.i64.wrap (z.durable + m5) - 2)) (by rfl) (by rfl) ⟨_, e1⟩ f1 int_info1 ⟨trivial, ?_⟩)
      simp only [Act.put]
      refine Tree.ends ?_
      have hx10 := (Below.heap_setCell w9.drew ⟨g7, j * 3 + 1, none⟩ (.int .i64 (IntKind.i64.wrap (IntKind.i64.wrap (z.durable + m5) - 2))) w.heap.size (by show w.heap.size ≠ g7; omega)).trans hx9
      have hr10 := (Below.heap_setCell w9.drew ⟨g7, j * 3 + 1, none⟩ (.int .i64 (IntKind.i64.wrap (IntKind.i64.wrap (z.durable + m5) - 2))) (w.heap.size + 1) (by show w.heap.size + 1 ≠ g7; omega)).trans hr9
      have b10 := b9.drew.setCell (show w.heap.size ≤ (⟨g7, j * 3 + 1, none⟩ : Addr).block by show w.heap.size ≤ g7; omega) (.int .i64 (IntKind.i64.wrap (IntKind.i64.wrap (z.durable + m5) - 2)))
      have O10 := owns_cell (w := w9.drew) O9 (j * 3 + 1) (.int .i64 (IntKind.i64.wrap (IntKind.i64.wrap (z.durable + m5) - 2)))
      have Z10 := ((Z9.du hzk (IntKind.i64.wrap (IntKind.i64.wrap (z.durable + m5) - 2))).on (Agree.below (Below.refl w9.heap.size w9).drew)).on (Agree.setCell (p := ⟨g7, j * 3 + 1, none⟩) (fun h => h.2.1 rfl) (.int .i64 (IntKind.i64.wrap (IntKind.i64.wrap (z.durable + m5) - 2))))
      generalize w9.drew.setCell ⟨g7, j * 3 + 1, none⟩ (.int .i64 (IntKind.i64.wrap (IntKind.i64.wrap (z.durable + m5) - 2))) = w10 at hx10 hr10 b10 O10 Z10 ⊢
      clear l0 l1 l2 l3 e0 e1 e2
      obtain ⟨v10, l0, l1, l2, l3⟩ := row4 hx10
      go_wp2_with (first | ((with_reducible refine Plan.store_lit 24 (.tmp 8) _ (w.heap.size + 1) ?_ hr10 ?_ ?_ ?_ ?_ ?_ ?_); rotate_left; (· rfl); (· rfl); (· exact dev_info); (· rfl); (· simp [Value.oneCell']); simp only [Act.put]))
      have hend := odd_end (r := w.heap.size + 1) O10 Z10 hfin hgne (by omega) b10 #[.int .i64 size, .int .i64 op, .int .i64 act, .slice (some ⟨g7, 0, none⟩) n c7]
      exact bodyPost_ret (results_cell_row rfl _ _ _ _ _ _ _ rfl (setRow_heap _ _ _ _ _ _ hr10) Try.underlying24 rfl dev_info) rfl ⟨⟨size, op, act, _⟩, _, _, _, rfl, hend.1, hend.2, hn⟩
    · refine Tree.wp_call 16 _ ?_ (H5.out _) ?_
      · go_simp
      rintro e w9' ⟨rfl, rfl⟩
      refine ⟨_, rfl, trivial, ?_⟩
      simp only [Act.put, List.setIfInBounds_toArray, List.set_cons_zero, List.set_cons_succ]
      refine Tree.only (by rfl) ?_
      refine Tree.wp_make (.int .i64 z.durable) w9.drew ?_ ?_
      · go_simp
        try (with_reducible rfl)
      refine ⟨trivial, ?_⟩
      simp only [Act.put, List.setIfInBounds_toArray, List.set_cons_zero, List.set_cons_succ]
      repeat (first | (refine Tree.take ?_ (by rfl) ?_ ?_; rotate_left; (· rintro w9 -; go_simp; (try rw [if_neg (by omega)]); all_goals (with_reducible rfl)); simp only [Act.put, List.setIfInBounds_toArray, List.set_cons_zero, List.set_cons_succ]))
      refine Tree.only (by rfl) (wp_store_int 3 _ _ rfl g7 (j * 3 + 1) .i64 (IntKind.i64.wrap (IntKind.i64.wrap (z.durable + m5) - 2)) (by rfl) (by rfl) ⟨_, e1⟩ f1 int_info1 ⟨trivial, ?_⟩)
      simp only [Act.put]
      refine Tree.ends ?_
      have hx10 := (Below.heap_setCell w9.drew ⟨g7, j * 3 + 1, none⟩ (.int .i64 (IntKind.i64.wrap (IntKind.i64.wrap (z.durable + m5) - 2))) w.heap.size (by show w.heap.size ≠ g7; omega)).trans hx9
      have hr10 := (Below.heap_setCell w9.drew ⟨g7, j * 3 + 1, none⟩ (.int .i64 (IntKind.i64.wrap (IntKind.i64.wrap (z.durable + m5) - 2))) (w.heap.size + 1) (by show w.heap.size + 1 ≠ g7; omega)).trans hr9
      have b10 := b9.drew.setCell (show w.heap.size ≤ (⟨g7, j * 3 + 1, none⟩ : Addr).block by show w.heap.size ≤ g7; omega) (.int .i64 (IntKind.i64.wrap (IntKind.i64.wrap (z.durable + m5) - 2)))
      have O10 := owns_cell (w := w9.drew) O9 (j * 3 + 1) (.int .i64 (IntKind.i64.wrap (IntKind.i64.wrap (z.durable + m5) - 2)))
      have Z10 := ((Z9.du hzk (IntKind.i64.wrap (IntKind.i64.wrap (z.durable + m5) - 2))).on (Agree.below (Below.refl w9.heap.size w9).drew)).on (Agree.setCell (p := ⟨g7, j * 3 + 1, none⟩) (fun h => h.2.1 rfl) (.int .i64 (IntKind.i64.wrap (IntKind.i64.wrap (z.durable + m5) - 2))))
      generalize w9.drew.setCell ⟨g7, j * 3 + 1, none⟩ (.int .i64 (IntKind.i64.wrap (IntKind.i64.wrap (z.durable + m5) - 2))) = w10 at hx10 hr10 b10 O10 Z10 ⊢
      clear l0 l1 l2 l3 e0 e1 e2
      obtain ⟨v10, l0, l1, l2, l3⟩ := row4 hx10
      go_wp2_with (first | ((with_reducible refine Plan.store_lit 24 (.tmp 8) _ (w.heap.size + 1) ?_ hr10 ?_ ?_ ?_ ?_ ?_ ?_); rotate_left; (· rfl); (· rfl); (· exact dev_info); (· rfl); (· simp [Value.oneCell']); simp only [Act.put]))
      have hend := odd_end (r := w.heap.size + 1) O10 Z10 hfin hgne (by omega) b10 #[.int .i64 size, .int .i64 op, .int .i64 act, .slice (some ⟨g7, 0, none⟩) n c7]
      exact bodyPost_ret (results_cell_row rfl _ _ _ _ _ _ _ rfl (setRow_heap _ _ _ _ _ _ hr10) Try.underlying24 rfl dev_info) rfl ⟨⟨size, op, act, _⟩, _, _, _, rfl, hend.1, hend.2, hn⟩
  · have hsm : ∀ t ∈ z.sectors ++ [(⟨#[120]⟩ : ByteArray)], t.size ≤ maxLen := by
      intro t ht
      rcases List.mem_append.1 ht with h | h
      · exact strs_small hss.1 t h
      · obtain rfl : t = ⟨#[120]⟩ := by simpa using h
        unfold maxLen; decide
    go_wp2_with (first
      | (go_at_call 16; ((with_reducible refine (HK.out _).mono ?_); rintro e wk ⟨rfl, rfl⟩; clear HK))
      | (at_builtin; have E0 := strs_empty w9 (H := w9.heap.size) rfl; have c4 := (Below.refl w9.heap.size w9).alloc (Nat.le_refl _) (.cells #[] 9); refine append_list rfl _ _ rfl w9.heap.size (.slice (some ⟨w9.heap.size, 0, none⟩) 0 0) rfl E0 sa sl sc z.sectors rfl (hss.1.on c4 (Nat.le_refl _)) hslm (by simp only [World.size_alloc]; omega) ?_; intro v5 w5 hown5 hgrow5; have c5 := below_grow c4 E0 (Nat.le_refl _) (by simp only [World.size_alloc]; omega) hgrow5; have hx5 := row_on c5 hx9 (lt_of_block hx9); have own6 := Lib.hid (owns_on hown5 ((Below.refl _ _).alloc (Nat.le_refl _) (.cells #[.string ⟨#[120]⟩] 9))); clear E0 hown5 hgrow5)
      | (at_builtin; have m5 := c5.size; refine append_one rfl _ _ rfl w9.heap.size v5 sl z.sectors rfl own6.out w5.heap.size ⟨#[120]⟩ rfl (cell_of_row _ _ 0 _ _ _ (heap_alloc_new w5 _)) hslm (by simp only [World.size_alloc]; omega) ?_; intro v7' w10 hown7 hgrow7; obtain ⟨g10, c10, rfl, hg10, hl10⟩ := owned_some hown7 (by omega); have c7' := below_grow (c5.alloc c5.size (.cells #[.string ⟨#[120]⟩] 9)) own6.out (Nat.le_refl _) (by simp only [World.size_alloc]; omega) hgrow7; have hx10 := row_on c7' hx9 (lt_of_block hx9); have hr10 := row_on c7' hr9 (lt_of_block hr9); have b10 := b9.trans (c7'.mono b9.size); have O10 := zowns_on O9 c7'; have Z10 := Z9.on (Agree.below c7'); have S10 := strsIn_own (F := (fun b => b ≠ w.heap.size + 1 ∧ b ≠ g7 ∧ b ≠ w.heap.size)) hown7 hsm ⟨by omega, by omega, by omega⟩; obtain ⟨t0, t1, ⟨ua, ul, uc, t2, -⟩, r0, r1, r2⟩ := odd_cells O10 Z10 hzk; clear hown7 hgrow7)
      | ((with_reducible refine store_slice_lit 26 (.tmp 63) _ g7 (j * 3 + 2) (some ⟨g10, 0, none⟩) (sl + 1) c10 ?_ ?_ ⟨_, t2⟩ r2 str_slice_info1 ?_); (· rfl); (· rfl); simp only [Act.put]; have hx11 := (Below.heap_setCell w10 ⟨g7, j * 3 + 2, none⟩ (.slice (some ⟨g10, 0, none⟩) (sl + 1) c10) w.heap.size (by show w.heap.size ≠ g7; omega)).trans hx10; have hr11 := (Below.heap_setCell w10 ⟨g7, j * 3 + 2, none⟩ (.slice (some ⟨g10, 0, none⟩) (sl + 1) c10) (w.heap.size + 1) (by show w.heap.size + 1 ≠ g7; omega)).trans hr10; have b11 := b10.setCell (show w.heap.size ≤ (⟨g7, j * 3 + 2, none⟩ : Addr).block by show w.heap.size ≤ g7; omega) (.slice (some ⟨g10, 0, none⟩) (sl + 1) c10); have O11 := owns_cell O10 (j * 3 + 2) (.slice (some ⟨g10, 0, none⟩) (sl + 1) c10); have Z11 := (Z10.se hzk S10).on (Agree.setCell (p := ⟨g7, j * 3 + 2, none⟩) (fun h => h.2.1 rfl) (.slice (some ⟨g10, 0, none⟩) (sl + 1) c10)); generalize w10.setCell ⟨g7, j * 3 + 2, none⟩ (.slice (some ⟨g10, 0, none⟩) (sl + 1) c10) = w11 at hx11 hr11 b11 O11 Z11 ⊢; clear l0 l1 l2 l3 t0 t1 t2; obtain ⟨v11, l0, l1, l2, l3⟩ := row4 hx11)
      | ((with_reducible refine Plan.store_lit 24 (.tmp 8) _ (w.heap.size + 1) ?_ hr11 ?_ ?_ ?_ ?_ ?_ ?_); rotate_left; (· rfl); (· rfl); (· exact dev_info); (· rfl); (· simp [Value.oneCell']); simp only [Act.put]))
    have hend := odd_end (r := w.heap.size + 1) O11 Z11 hfin hgne (by omega) b11 #[.int .i64 size, .int .i64 op, .int .i64 act, .slice (some ⟨g7, 0, none⟩) n c7]
    exact bodyPost_ret (results_cell_row rfl _ _ _ _ _ _ _ rfl (setRow_heap _ _ _ _ _ _ hr11) Try.underlying24 rfl dev_info) rfl ⟨⟨size, op, act, _⟩, _, _, _, rfl, hend.1, hend.2, hn⟩
  · go_wp2_with (first | (go_at_call 16; ((with_reducible refine (HK.out _).mono ?_); rintro e wk ⟨rfl, rfl⟩; clear HK)))
    refine Tree.start (fun _ => True) (.take 0 (.take 2 (.fork 1 (.only 3 (.take 4 (.take 5 (.take 6 (.only 7 (.done)))))) 3 (.only 1 (.take 4 (.take 5 (.take 6 (.only 7 (.done))))))))) (by kernel_rfl) (by kernel_rfl) (by kernel_rfl) (by kernel_rfl) trivial ?_
    simp only [Tree.T.map, List.getElem?_toArray, List.getElem?_cons_zero, List.getElem?_cons_succ]
    have l0d : w9.drew.cell? ⟨w.heap.size, 0, none⟩ = some (.int .i64 size) := l0
    repeat (first | (refine Tree.take ?_ (by rfl) ?_ ?_; rotate_left; (· rintro w9 -; go_simp; (try rw [if_neg (by omega)]); all_goals (with_reducible rfl)); simp only [Act.put, List.setIfInBounds_toArray, List.set_cons_zero, List.set_cons_succ]))
    refine Tree.fork (by rfl) (by rfl) ?_ ?_
    · refine Tree.wp_make (.int .i64 size) w9.drew ?_ ?_
      · go_simp
        try (with_reducible rfl)
      refine ⟨trivial, ?_⟩
      simp only [Act.put, List.setIfInBounds_toArray, List.set_cons_zero, List.set_cons_succ]
      refine Tree.only (by rfl) ?_
      refine Tree.wp_call 16 _ ?_ (H5.out _) ?_
      · go_simp
      rintro e w9' ⟨rfl, rfl⟩
      refine ⟨_, rfl, trivial, ?_⟩
      simp only [Act.put, List.setIfInBounds_toArray, List.set_cons_zero, List.set_cons_succ]
      repeat (first | (refine Tree.take ?_ (by rfl) ?_ ?_; rotate_left; (· rintro w9 -; go_simp; (try rw [if_neg (by omega)]); all_goals (with_reducible rfl)); simp only [Act.put, List.setIfInBounds_toArray, List.set_cons_zero, List.set_cons_succ]))
      refine Tree.only (by rfl) (wp_store_int 3 _ _ rfl w.heap.size 0 .i64 (IntKind.i64.wrap (IntKind.i64.wrap (size + m5) - 2)) (by rfl) (by rfl) ⟨_, l0⟩ g0 int_info1 ⟨trivial, ?_⟩)
      simp only [Act.put]
      refine Tree.ends ?_
      have hx10 : (w9.drew.setCell ⟨w.heap.size, 0, none⟩ (.int .i64 (IntKind.i64.wrap (IntKind.i64.wrap (size + m5) - 2)))).heap[w.heap.size]? = some (devRow (IntKind.i64.wrap (IntKind.i64.wrap (size + m5) - 2)) op act (some ⟨g7, 0, none⟩) n c7) := setCell_row (w := w9.drew) hx9 0 (.int .i64 (IntKind.i64.wrap (IntKind.i64.wrap (size + m5) - 2)))
      have hr10 := (Below.heap_setCell w9.drew ⟨w.heap.size, 0, none⟩ (.int .i64 (IntKind.i64.wrap (IntKind.i64.wrap (size + m5) - 2))) (w.heap.size + 1) (by show w.heap.size + 1 ≠ w.heap.size; omega)).trans hr9
      have b10 := b9.drew.setCell (show w.heap.size ≤ (⟨w.heap.size, 0, none⟩ : Addr).block from Nat.le_refl _) (.int .i64 (IntKind.i64.wrap (IntKind.i64.wrap (size + m5) - 2)))
      have O10 := ownsRow_setCell_other (w := w9.drew) O9 (a := ⟨w.heap.size, 0, none⟩) (fun e => by have := Option.some.inj (show some g7 = some w.heap.size from e); omega) (.int .i64 (IntKind.i64.wrap (IntKind.i64.wrap (size + m5) - 2)))
      have Z10 := (Z9.on (Agree.below (Below.refl w9.heap.size w9).drew)).on (Agree.setCell (p := ⟨w.heap.size, 0, none⟩) (fun h => h.2.2 rfl) (.int .i64 (IntKind.i64.wrap (IntKind.i64.wrap (size + m5) - 2))))
      generalize w9.drew.setCell ⟨w.heap.size, 0, none⟩ (.int .i64 (IntKind.i64.wrap (IntKind.i64.wrap (size + m5) - 2))) = w10 at hx10 hr10 b10 O10 Z10 ⊢
      generalize IntKind.i64.wrap (IntKind.i64.wrap (size + m5) - 2) = V at hx10 ⊢
      clear l0 l1 l2 l3
      obtain ⟨v10, l0, l1, l2, l3⟩ := row4 hx10
      go_wp2_with (first | ((with_reducible refine Plan.store_lit 24 (.tmp 8) _ (w.heap.size + 1) ?_ hr10 ?_ ?_ ?_ ?_ ?_ ?_); rotate_left; (· rfl); (· rfl); (· exact dev_info); (· rfl); (· simp [Value.oneCell']); simp only [Act.put]))
      have hend := odd_end (r := w.heap.size + 1) O10 Z10 hfin hgne (by omega) b10 #[.int .i64 (V), .int .i64 op, .int .i64 act, .slice (some ⟨g7, 0, none⟩) n c7]
      exact bodyPost_ret (results_cell_row rfl _ _ _ _ _ _ _ rfl (setRow_heap _ _ _ _ _ _ hr10) Try.underlying24 rfl dev_info) rfl ⟨⟨V, op, act, _⟩, _, _, _, rfl, hend.1, hend.2, hn⟩
    · refine Tree.wp_call 16 _ ?_ (H5.out _) ?_
      · go_simp
      rintro e w9' ⟨rfl, rfl⟩
      refine ⟨_, rfl, trivial, ?_⟩
      simp only [Act.put, List.setIfInBounds_toArray, List.set_cons_zero, List.set_cons_succ]
      refine Tree.only (by rfl) ?_
      refine Tree.wp_make (.int .i64 size) w9.drew ?_ ?_
      · go_simp
        try (with_reducible rfl)
      refine ⟨trivial, ?_⟩
      simp only [Act.put, List.setIfInBounds_toArray, List.set_cons_zero, List.set_cons_succ]
      repeat (first | (refine Tree.take ?_ (by rfl) ?_ ?_; rotate_left; (· rintro w9 -; go_simp; (try rw [if_neg (by omega)]); all_goals (with_reducible rfl)); simp only [Act.put, List.setIfInBounds_toArray, List.set_cons_zero, List.set_cons_succ]))
      refine Tree.only (by rfl) (wp_store_int 3 _ _ rfl w.heap.size 0 .i64 (IntKind.i64.wrap (IntKind.i64.wrap (size + m5) - 2)) (by rfl) (by rfl) ⟨_, l0⟩ g0 int_info1 ⟨trivial, ?_⟩)
      simp only [Act.put]
      refine Tree.ends ?_
      have hx10 : (w9.drew.setCell ⟨w.heap.size, 0, none⟩ (.int .i64 (IntKind.i64.wrap (IntKind.i64.wrap (size + m5) - 2)))).heap[w.heap.size]? = some (devRow (IntKind.i64.wrap (IntKind.i64.wrap (size + m5) - 2)) op act (some ⟨g7, 0, none⟩) n c7) := setCell_row (w := w9.drew) hx9 0 (.int .i64 (IntKind.i64.wrap (IntKind.i64.wrap (size + m5) - 2)))
      have hr10 := (Below.heap_setCell w9.drew ⟨w.heap.size, 0, none⟩ (.int .i64 (IntKind.i64.wrap (IntKind.i64.wrap (size + m5) - 2))) (w.heap.size + 1) (by show w.heap.size + 1 ≠ w.heap.size; omega)).trans hr9
      have b10 := b9.drew.setCell (show w.heap.size ≤ (⟨w.heap.size, 0, none⟩ : Addr).block from Nat.le_refl _) (.int .i64 (IntKind.i64.wrap (IntKind.i64.wrap (size + m5) - 2)))
      have O10 := ownsRow_setCell_other (w := w9.drew) O9 (a := ⟨w.heap.size, 0, none⟩) (fun e => by have := Option.some.inj (show some g7 = some w.heap.size from e); omega) (.int .i64 (IntKind.i64.wrap (IntKind.i64.wrap (size + m5) - 2)))
      have Z10 := (Z9.on (Agree.below (Below.refl w9.heap.size w9).drew)).on (Agree.setCell (p := ⟨w.heap.size, 0, none⟩) (fun h => h.2.2 rfl) (.int .i64 (IntKind.i64.wrap (IntKind.i64.wrap (size + m5) - 2))))
      generalize w9.drew.setCell ⟨w.heap.size, 0, none⟩ (.int .i64 (IntKind.i64.wrap (IntKind.i64.wrap (size + m5) - 2))) = w10 at hx10 hr10 b10 O10 Z10 ⊢
      generalize IntKind.i64.wrap (IntKind.i64.wrap (size + m5) - 2) = V at hx10 ⊢
      clear l0 l1 l2 l3
      obtain ⟨v10, l0, l1, l2, l3⟩ := row4 hx10
      go_wp2_with (first | ((with_reducible refine Plan.store_lit 24 (.tmp 8) _ (w.heap.size + 1) ?_ hr10 ?_ ?_ ?_ ?_ ?_ ?_); rotate_left; (· rfl); (· rfl); (· exact dev_info); (· rfl); (· simp [Value.oneCell']); simp only [Act.put]))
      have hend := odd_end (r := w.heap.size + 1) O10 Z10 hfin hgne (by omega) b10 #[.int .i64 (V), .int .i64 op, .int .i64 act, .slice (some ⟨g7, 0, none⟩) n c7]
      exact bodyPost_ret (results_cell_row rfl _ _ _ _ _ _ _ rfl (setRow_heap _ _ _ _ _ _ hr10) Try.underlying24 rfl dev_info) rfl ⟨⟨V, op, act, _⟩, _, _, _, rfl, hend.1, hend.2, hn⟩

  · go_wp2_with (first
      | (go_at_call 16; ((with_reducible refine (HK.out _).mono ?_); rintro e wk ⟨rfl, rfl⟩; clear HK))
      | (go_at_call 16; ((with_reducible refine (H5.out _).mono ?_); rintro e wk ⟨rfl, rfl⟩))
      | ((with_reducible refine store_int_lit 3 (.tmp 77) _ w.heap.size 1 .i64 m5 ?_ ?_ ⟨_, l1⟩ g1 int_info1 ?_); (· rfl); (· rfl); simp only [Act.put]; have hx10 : (w9.setCell ⟨w.heap.size, 1, none⟩ (.int .i64 m5)).heap[w.heap.size]? = some (devRow size m5 act (some ⟨g7, 0, none⟩) n c7) := setCell_row hx9 1 (.int .i64 m5); have hr10 := (Below.heap_setCell w9 ⟨w.heap.size, 1, none⟩ (.int .i64 m5) (w.heap.size + 1) (by show w.heap.size + 1 ≠ w.heap.size; omega)).trans hr9; have b10 := b9.setCell (show w.heap.size ≤ (⟨w.heap.size, 1, none⟩ : Addr).block from Nat.le_refl _) (.int .i64 m5); have O10 := ownsRow_setCell_other O9 (a := ⟨w.heap.size, 1, none⟩) (fun e => by have := Option.some.inj (show some g7 = some w.heap.size from e); omega) (.int .i64 m5); have Z10 := Z9.on (Agree.setCell (p := ⟨w.heap.size, 1, none⟩) (fun h => h.2.2 rfl) (.int .i64 m5)); generalize w9.setCell ⟨w.heap.size, 1, none⟩ (.int .i64 m5) = w10 at hx10 hr10 b10 O10 Z10 ⊢; clear l0 l1 l2 l3; obtain ⟨v10, l0, l1, l2, l3⟩ := row4 hx10)
      | ((with_reducible refine Plan.store_lit 24 (.tmp 8) _ (w.heap.size + 1) ?_ hr10 ?_ ?_ ?_ ?_ ?_ ?_); rotate_left; (· rfl); (· rfl); (· exact dev_info); (· rfl); (· simp [Value.oneCell']); simp only [Act.put]))
    have hend := odd_end (r := w.heap.size + 1) O10 Z10 hfin hgne (by omega) b10 #[.int .i64 size, .int .i64 m5, .int .i64 act, .slice (some ⟨g7, 0, none⟩) n c7]
    exact bodyPost_ret (results_cell_row rfl _ _ _ _ _ _ _ rfl (setRow_heap _ _ _ _ _ _ hr10) Try.underlying24 rfl dev_info) rfl ⟨⟨size, m5, act, _⟩, _, _, _, rfl, hend.1, hend.2, hn⟩
  · go_wp2_with (first
      | (go_at_call 16; ((with_reducible refine (HK.out _).mono ?_); rintro e wk ⟨rfl, rfl⟩; clear HK))
      | (go_at_call 16; ((with_reducible refine (H6.out _).mono ?_); rintro e wk ⟨rfl, rfl⟩))
      | ((with_reducible refine store_int_lit 3 (.tmp 82) _ w.heap.size 2 .i64 m6 ?_ ?_ ⟨_, l2⟩ g2 int_info1 ?_); (· rfl); (· rfl); simp only [Act.put]; have hx10 : (w9.setCell ⟨w.heap.size, 2, none⟩ (.int .i64 m6)).heap[w.heap.size]? = some (devRow size op m6 (some ⟨g7, 0, none⟩) n c7) := setCell_row hx9 2 (.int .i64 m6); have hr10 := (Below.heap_setCell w9 ⟨w.heap.size, 2, none⟩ (.int .i64 m6) (w.heap.size + 1) (by show w.heap.size + 1 ≠ w.heap.size; omega)).trans hr9; have b10 := b9.setCell (show w.heap.size ≤ (⟨w.heap.size, 2, none⟩ : Addr).block from Nat.le_refl _) (.int .i64 m6); have O10 := ownsRow_setCell_other O9 (a := ⟨w.heap.size, 2, none⟩) (fun e => by have := Option.some.inj (show some g7 = some w.heap.size from e); omega) (.int .i64 m6); have Z10 := Z9.on (Agree.setCell (p := ⟨w.heap.size, 2, none⟩) (fun h => h.2.2 rfl) (.int .i64 m6)); generalize w9.setCell ⟨w.heap.size, 2, none⟩ (.int .i64 m6) = w10 at hx10 hr10 b10 O10 Z10 ⊢; clear l0 l1 l2 l3; obtain ⟨v10, l0, l1, l2, l3⟩ := row4 hx10)
      | ((with_reducible refine Plan.store_lit 24 (.tmp 8) _ (w.heap.size + 1) ?_ hr10 ?_ ?_ ?_ ?_ ?_ ?_); rotate_left; (· rfl); (· rfl); (· exact dev_info); (· rfl); (· simp [Value.oneCell']); simp only [Act.put]))
    have hend := odd_end (r := w.heap.size + 1) O10 Z10 hfin hgne (by omega) b10 #[.int .i64 size, .int .i64 op, .int .i64 m6, .slice (some ⟨g7, 0, none⟩) n c7]
    exact bodyPost_ret (results_cell_row rfl _ _ _ _ _ _ _ rfl (setRow_heap _ _ _ _ _ _ hr10) Try.underlying24 rfl dev_info) rfl ⟨⟨size, op, m6, _⟩, _, _, _, rfl, hend.1, hend.2, hn⟩
  · go_wp2_with (first
      | (go_at_call 16; ((with_reducible refine (HK.out _).mono ?_); rintro e wk ⟨rfl, rfl⟩; clear HK))
      | ((with_reducible refine store_slice_lit 22 (.tmp 85) _ w.heap.size 3 none 0 0 ?_ ?_ ⟨_, l3⟩ g3 zone_slice_info1 ?_); (· rfl); (· rfl); simp only [Act.put]; have hx10 : (w9.setCell ⟨w.heap.size, 3, none⟩ (.slice none 0 0)).heap[w.heap.size]? = some (devRow size op act none 0 0) := setCell_row hx9 3 (.slice none 0 0); have hr10 := (Below.heap_setCell w9 ⟨w.heap.size, 3, none⟩ (.slice none 0 0) (w.heap.size + 1) (by show w.heap.size + 1 ≠ w.heap.size; omega)).trans hr9; have b10 := b9.setCell (show w.heap.size ≤ (⟨w.heap.size, 3, none⟩ : Addr).block from Nat.le_refl _) (.slice none 0 0); generalize w9.setCell ⟨w.heap.size, 3, none⟩ (.slice none 0 0) = w10 at hx10 hr10 b10 ⊢; clear l0 l1 l2 l3; obtain ⟨v10, l0, l1, l2, l3⟩ := row4 hx10)
      | ((with_reducible refine Plan.store_lit 24 (.tmp 8) _ (w.heap.size + 1) ?_ hr10 ?_ ?_ ?_ ?_ ?_ ?_); rotate_left; (· rfl); (· rfl); (· exact dev_info); (· rfl); (· simp [Value.oneCell']); simp only [Act.put]))
    exact bodyPost_ret (results_cell_row rfl _ _ _ _ _ _ _ rfl (setRow_heap _ _ _ _ _ _ hr10) Try.underlying24 rfl dev_info) rfl ⟨⟨size, op, act, []⟩, none, 0, 0, rfl, .inl ⟨rfl, rfl, rfl, rfl⟩, below_setRow b10 (by omega) _, by omega⟩
  · have hz9k := hzk
    go_wp2_with (first
      | (go_at_call 16; ((with_reducible refine (HK.out _).mono ?_); rintro e wk ⟨rfl, rfl⟩; clear HK))
      | ((with_reducible refine store_int_lit 3 (.tmp 92) _ g7 (j * 3) .i64 5 ?_ ?_ ⟨_, e0⟩ f0 int_info1 ?_); (· rfl); (· rfl); simp only [Act.put]; have hx10 := (Below.heap_setCell w9 ⟨g7, j * 3, none⟩ (.int .i64 5) w.heap.size (by show w.heap.size ≠ g7; omega)).trans hx9; have hr10 := (Below.heap_setCell w9 ⟨g7, j * 3, none⟩ (.int .i64 5) (w.heap.size + 1) (by show w.heap.size + 1 ≠ g7; omega)).trans hr9; have b10 := b9.setCell (show w.heap.size ≤ (⟨g7, j * 3, none⟩ : Addr).block by show w.heap.size ≤ g7; omega) (.int .i64 5); have O10 := owns_cell O9 (j * 3) (.int .i64 5); have Z10 := (Z9.st hz9k 5).on (Agree.setCell (p := ⟨g7, j * 3, none⟩) (fun h => h.2.1 rfl) (.int .i64 5)); generalize w9.setCell ⟨g7, j * 3, none⟩ (.int .i64 5) = w10 at hx10 hr10 b10 O10 Z10 ⊢; have hz10k := set_at (y := ⟨5, z.durable, z.sectors⟩) hz9k; obtain ⟨s0, s1, ⟨sa, sl, sc, s2, -⟩, sf0, sf1, sf2⟩ := odd_cells O10 Z10 hz10k; clear l0 l1 l2 l3; obtain ⟨v10, l0, l1, l2, l3⟩ := row4 hx10)
      | ((with_reducible refine store_slice_lit 26 (.tmp 94) _ g7 (j * 3 + 2) none 0 0 ?_ ?_ ⟨_, s2⟩ sf2 str_slice_info1 ?_); (· rfl); (· rfl); simp only [Act.put]; have hx11 := (Below.heap_setCell w10 ⟨g7, j * 3 + 2, none⟩ (.slice none 0 0) w.heap.size (by show w.heap.size ≠ g7; omega)).trans hx10; have hr11 := (Below.heap_setCell w10 ⟨g7, j * 3 + 2, none⟩ (.slice none 0 0) (w.heap.size + 1) (by show w.heap.size + 1 ≠ g7; omega)).trans hr10; have b11 := b10.setCell (show w.heap.size ≤ (⟨g7, j * 3 + 2, none⟩ : Addr).block by show w.heap.size ≤ g7; omega) (.slice none 0 0); have O11 := owns_cell O10 (j * 3 + 2) (.slice none 0 0); have Z11 := (Z10.se (L := []) hz10k (empty_in _ _)).on (Agree.setCell (p := ⟨g7, j * 3 + 2, none⟩) (fun h => h.2.1 rfl) (.slice none 0 0)); generalize w10.setCell ⟨g7, j * 3 + 2, none⟩ (.slice none 0 0) = w11 at hx11 hr11 b11 O11 Z11 ⊢; have hz11k := set_at (y := ⟨5, z.durable, []⟩) hz10k; obtain ⟨u0, u1, ⟨ua, ul, uc, u2, -⟩, uf0, uf1, uf2⟩ := odd_cells O11 Z11 hz11k; clear l0 l1 l2 l3; obtain ⟨v11, l0, l1, l2, l3⟩ := row4 hx11)
      | ((with_reducible refine store_int_lit 3 (.tmp 96) _ g7 (j * 3 + 1) .i64 0 ?_ ?_ ⟨_, u1⟩ uf1 int_info1 ?_); (· rfl); (· rfl); simp only [Act.put]; have hx12 := (Below.heap_setCell w11 ⟨g7, j * 3 + 1, none⟩ (.int .i64 0) w.heap.size (by show w.heap.size ≠ g7; omega)).trans hx11; have hr12 := (Below.heap_setCell w11 ⟨g7, j * 3 + 1, none⟩ (.int .i64 0) (w.heap.size + 1) (by show w.heap.size + 1 ≠ g7; omega)).trans hr11; have b12 := b11.setCell (show w.heap.size ≤ (⟨g7, j * 3 + 1, none⟩ : Addr).block by show w.heap.size ≤ g7; omega) (.int .i64 0); have O12 := owns_cell O11 (j * 3 + 1) (.int .i64 0); have Z12 := (Z11.du hz11k 0).on (Agree.setCell (p := ⟨g7, j * 3 + 1, none⟩) (fun h => h.2.1 rfl) (.int .i64 0)); generalize w11.setCell ⟨g7, j * 3 + 1, none⟩ (.int .i64 0) = w12 at hx12 hr12 b12 O12 Z12 ⊢; clear l0 l1 l2 l3; obtain ⟨v12, l0, l1, l2, l3⟩ := row4 hx12)
      | ((with_reducible refine Plan.store_lit 24 (.tmp 8) _ (w.heap.size + 1) ?_ hr12 ?_ ?_ ?_ ?_ ?_ ?_); rotate_left; (· rfl); (· rfl); (· exact dev_info); (· rfl); (· simp [Value.oneCell']); simp only [Act.put]))
    have hend := odd_end (r := w.heap.size + 1) O12 Z12 hfin hgne (by omega) b12 #[.int .i64 size, .int .i64 op, .int .i64 act, .slice (some ⟨g7, 0, none⟩) n c7]
    exact bodyPost_ret (results_cell_row rfl _ _ _ _ _ _ _ rfl (setRow_heap _ _ _ _ _ _ hr12) Try.underlying24 rfl dev_info) rfl ⟨⟨size, op, act, _⟩, _, _, _, rfl, hend.1, hend.2, hn⟩

  · go_wp2_with (first
      | (go_at_call 16; ((with_reducible refine (HK.out _).mono ?_); rintro e wk ⟨rfl, rfl⟩; clear HK))
      | ((with_reducible refine Plan.store_lit 24 (.tmp 8) _ (w.heap.size + 1) ?_ hr9 ?_ ?_ ?_ ?_ ?_ ?_); rotate_left; (· rfl); (· rfl); (· exact dev_info); (· rfl); (· simp [Value.oneCell']); simp only [Act.put]))
    have hend := odd_end (r := w.heap.size + 1) O9 Z9 hfin hgne (by omega) b9 #[.int .i64 size, .int .i64 op, .int .i64 act, .slice (some ⟨g7, 0, none⟩) n c7]
    exact bodyPost_ret (results_cell_row rfl _ _ _ _ _ _ _ rfl (setRow_heap _ _ _ _ _ _ hr9) Try.underlying24 rfl dev_info) rfl ⟨⟨size, op, act, _⟩, _, _, _, rfl, hend.1, hend.2, hn⟩
end Go.Proofs.Ytlplomofgbmgaaa

/- The walks of the program's small functions of flushes and power failures. -/
namespace Go.Proofs.Ytlplomofgbmgaaa
open Go.RowKit Plan ZnsMath MedMath

theorem ret_int {x y : Int} (h : x = y) : Ending.returned (.int .i64 x) = Ending.returned (.int .i64 y) := by rw [h]
set_option maxHeartbeats 1000000 in
theorem volatile_any (z : Zone) (a : Option Addr) (len cap : Nat) (w : World) (hl : z.sectors.length = len) :
    Calls Try.prog 29 #[zoneV z a len cap] w fun e w' => e = .returned (.int .i64 (vol z)) ∧ Below w.heap.size w w' := by
  obtain ⟨st, du, L⟩ := z
  change Calls Try.prog 29 #[.agg #[.int .i64 st, .int .i64 du, .slice a len cap]] w fun e w' => e = .returned (.int .i64 (max 0 (wrap64 ((L.length : Int) - max 0 du)))) ∧ Below w.heap.size w w'
  simp only at hl
  rw [hl]
  go_enter Try.func29, Try.ntmps29
  go_wp2
  all_goals
    rename_i h1
    have h2 := h
    go_ret
    refine ⟨ret_int ?_, (Below.refl _ _).alloc (Nat.le_refl _) _⟩
    first
      | (rw [if_pos h2, Int.sub_zero] at h1; rw [show max 0 du = 0 by omega, Int.sub_zero]; omega)
      | (rw [if_neg (by omega)] at h1; rw [show max 0 du = du by omega]; omega)
set_option maxHeartbeats 1000000 in
theorem failedState_any (st : Int) (n : Nat) (w : World) :
    Calls Try.prog 43 #[.int .i64 st, .int .i64 (n : Int)] w fun e w' => e = .returned (.int .i64 (failS st n)) ∧ w = w' := by
  by_cases h4 : st = 4
  · have e4 : (st == 4) = true := by simp [h4]
    have hf : failS st n = st := by unfold failS; rw [if_pos (.inl h4)]
    rw [hf]
    clear hf h4
    go_enter Try.func43, Try.ntmps43
    go_wp2
    go_ret
    exact ⟨rfl, rfl⟩
  · have e4 : (st == 4) = false := by simp [h4]
    by_cases h5 : st = 5
    · have e5 : (st == 5) = true := by simp [h5]
      have hf : failS st n = st := by unfold failS; rw [if_pos (.inr h5)]
      rw [hf]
      clear hf h4 h5
      go_enter Try.func43, Try.ntmps43
      go_wp2
      go_ret
      exact ⟨rfl, rfl⟩
    · have e5 : (st == 5) = false := by simp [h5]
      have hf : failS st n = if n = 0 then 0 else 3 := by unfold failS; rw [if_neg (by omega)]
      rw [hf]
      clear hf h4 h5
      by_cases hn : n = 0
      · subst hn
        rw [if_pos rfl]
        go_enter Try.func43, Try.ntmps43
        go_wp2
        go_ret
        exact ⟨rfl, rfl⟩
      · rw [if_neg hn]
        have en : ((n : Int) == 0) = false := by simp [hn]
        clear hn
        go_enter Try.func43, Try.ntmps43
        go_wp2
        go_ret
        exact ⟨rfl, rfl⟩
theorem strs_take {w : World} {F : Nat → Prop} {a : Option Addr} {len cap : Nat} {L : List ByteArray} (h : StrsIn w F a len cap L) (n : Nat) (hn : n ≤ len) : StrsIn w F a n n (L.take n) := by
  have hl := h.1.length
  refine ⟨?_, fun h0 x hx => h.2 (by omega) x hx⟩
  rcases h.1 with ⟨rfl, rfl, rfl, rfl⟩ | ⟨x, h1, h2, h3, h4, h5⟩
  · obtain rfl : n = 0 := by omega
    exact .inl ⟨rfl, rfl, rfl, rfl⟩
  · refine .inr ⟨x, h1, Nat.le_refl _, by omega, by rw [List.length_take]; omega, fun i s hi => h5 i s ?_⟩
    rw [List.getElem?_take] at hi
    split at hi
    · exact hi
    · cases hi
set_option maxHeartbeats 1000000 in
theorem failed_any (z : Zone) (a : Option Addr) (len cap n : Nat) (w : World) (hs : IsStrs w a len cap z.sectors) (hn : n ≤ len) :
    Calls Try.prog 30 #[zoneV z a len cap, .int .i64 (n : Int)] w fun e w' => e = .returned (zoneV (failed z n) a n n) ∧ Below w.heap.size w w' := by
  have hst := failedState_any z.state n
  have hcap : len ≤ cap := by
    rcases hs with ⟨_, rfl, rfl, _⟩ | ⟨x, _, h, _⟩ <;> omega
  have hlen := hs.len_le
  have hnI : (n : Int) ≤ (cap : Int) := by omega
  obtain ⟨st, du, L⟩ := z
  change Calls Try.prog 30 #[.agg #[.int .i64 st, .int .i64 du, .slice a len cap], .int .i64 (n : Int)] w fun e w' => e = .returned (.agg #[.int .i64 (failS st n), .int .i64 n, .slice a n n]) ∧ Below w.heap.size w w'
  try simp only at hst
  have HST := Lib.hid hst
  clear hst hs
  have b0 := ((Below.refl w.heap.size w).alloc (Nat.le_refl _) (zoneRow (failS st n) n a n n)).alloc (by simp) (zoneRow (failS st n) n a n n)
  go_enter Try.func30, Try.ntmps30
  go_wp2_with (first
    | (go_at_call 43; ((with_reducible refine (HST.out _).mono ?_); rintro e w1 ⟨rfl, rfl⟩)))
  exact bodyPost_ret (results_cell_row rfl _ _ _ _ _ _ _ rfl (heap_second _ _ _) Try.underlying28 rfl zone_info) rfl ⟨rfl, b0⟩
end Go.Proofs.Ytlplomofgbmgaaa
