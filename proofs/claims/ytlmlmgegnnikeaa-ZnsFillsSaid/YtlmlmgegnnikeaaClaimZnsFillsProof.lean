/- ZnsFills: a zone takes as many sectors as it has room for, each at the next offset, then is full; no more. No condition. -/
import Derived.Test.YtlmlmgegnnikeaaPack12
import Derived.Test.YtlmlmgegnnikeaaRows
import Derived.WalkKit
import Derived.ProofKit
import Derived.SliceStrings
import Derived.OpenShut
import Derived.ShutString
import Derived.ChangeOld
import Derived.Carry
import Derived.Below

/- Zoned devices as plain lists: commands lead from valid devices to valid ones. -/
namespace Go.Proofs.Ytlmlmgegnnikeaa
open ZnsMath

theorem right_all {Z : List Zone} {size : Int} (h : rightsB Z size = true) {i : Nat} {z : Zone} (hz : Z[i]? = some z) : rightB z size = true := by
  unfold rightsB at h
  rw [List.all_eq_true] at h
  exact h z (List.mem_of_getElem? hz)
theorem right_set {Z : List Zone} {size : Int} (h : rightsB Z size = true) (i : Nat) {z : Zone} (hz : rightB z size = true) : rightsB (Z.set i z) size = true := by
  unfold rightsB at h ⊢
  rw [List.all_eq_true] at h ⊢
  intro y hy
  rcases List.mem_or_eq_of_mem_set hy with h1 | h1
  · exact h y h1
  · rw [h1]; exact hz
theorem right_iff (z : Zone) (size : Int) : rightB z size = true ↔ (0 ≤ z.state ∧ z.state ≤ 5 ∧ (z.sectors.length : Int) ≤ size ∧ 0 ≤ z.durable ∧ z.durable ≤ z.sectors.length) ∧ sizesB z.sectors = true ∧
    (if z.state = 0 ∨ z.state = 5 then z.sectors.length = 0 else if z.state = 4 then z.durable = z.sectors.length else (z.sectors.length : Int) < size) := by
  unfold rightB
  rw [Bool.and_eq_true, Bool.and_eq_true, decide_eq_true_eq]
  constructor
  · rintro ⟨⟨h1, h2⟩, h3⟩
    refine ⟨by omega, h2, ?_⟩
    split at h3
    · rename_i h; rw [if_pos h]; simpa using h3
    · rename_i h
      rw [if_neg h]
      split at h3
      · rename_i h4; rw [if_pos h4]; simpa using h3
      · rename_i h4; rw [if_neg h4]; simpa using h3
  · rintro ⟨h1, h2, h3⟩
    refine ⟨⟨by omega, h2⟩, ?_⟩
    split at h3
    · rename_i h; rw [if_pos h]; simpa using h3
    · rename_i h
      rw [if_neg h]
      split at h3
      · rename_i h4; rw [if_pos h4]; simpa using h3
      · rename_i h4; rw [if_neg h4]; simpa using h3
/-- a valid device with another zone -/
theorem valid_with {D : Dev} {k : Nat} {y z : Zone} (hc : checkE D = 0) (hk : D.zones[k]? = some y) (hz : rightB z D.size = true)
    (ho : countO D.zones + (if openB z.state = true then 1 else 0) ≤ D.maxOpen.toNat + (if openB y.state = true then 1 else 0))
    (ha : countA D.zones + (if activeB z.state = true then 1 else 0) ≤ D.maxActive.toNat + (if activeB y.state = true then 1 else 0)) : checkE (withZ D k z) = 0 := by
  obtain ⟨h1, h2, h3, h4⟩ := check_parts hc
  have hp := config_parts h1
  have c1 := countO_set D.zones k y z hk
  have c2 := countA_set D.zones k y z hk
  refine check_of ?_ (right_set h2 k hz) ?_ ?_
  · rw [configB_eq] at h1 ⊢
    simp only [withZ, List.length_set]
    exact h1
  · show (countO (D.zones.set k z) : Int) ≤ D.maxOpen
    omega
  · show (countA (D.zones.set k z) : Int) ≤ D.maxActive
    omega
theorem right_empty {size : Int} (h : 0 ≤ size) : rightB empty size = true := by
  rw [right_iff]
  refine ⟨?_, rfl, rfl⟩
  simp [empty]
  exact h
theorem zone_of {D : Dev} {k : Nat} (hk : k < D.zones.length) : ∃ y, D.zones[k]? = some y := ⟨D.zones[k], List.getElem?_eq_getElem hk⟩
/-- what a command leaves: a valid device with as many zones of one size, and what could be read but for one zone -/
structure Kept (D X : Dev) (k : Nat) : Prop where
  valid : checkE X = 0
  size : X.size = D.size
  op : X.maxOpen = D.maxOpen
  act : X.maxActive = D.maxActive
  length : X.zones.length = D.zones.length
/-- nothing that could be read is lost -/
def Reads (D X : Dev) (j : Nat) : Prop := ∀ y, D.zones[j]? = some y → ∃ x T, X.zones[j]? = some x ∧ x.sectors = y.sectors ++ T ∧ (x.state = 5 → y.state = 5)
theorem reads_refl (D : Dev) (j : Nat) : Reads D D j := fun y hy => ⟨y, [], hy, by simp, id⟩
theorem reads_trans {D X Y : Dev} {j : Nat} (h : Reads D X j) (h2 : Reads X Y j) : Reads D Y j := fun y hy => by
  obtain ⟨x, T, h1, h3, h4⟩ := h y hy
  obtain ⟨z, U, h5, h6, h7⟩ := h2 x h1
  exact ⟨z, T ++ U, h5, by rw [h6, h3, List.append_assoc], fun h => h4 (h7 h)⟩
theorem kept_refl {D : Dev} (hc : checkE D = 0) (k : Nat) : Kept D D k := ⟨hc, rfl, rfl, rfl, rfl⟩
theorem kept_with {D : Dev} {k : Nat} {z : Zone} (h : checkE (withZ D k z) = 0) : Kept D (withZ D k z) k := ⟨h, rfl, rfl, rfl, by simp [withZ]⟩
theorem kept_trans {D X Y : Dev} {k : Nat} (h : Kept D X k) (h2 : Kept X Y k) : Kept D Y k := ⟨h2.valid, h2.size.trans h.size, h2.op.trans h.op, h2.act.trans h.act, h2.length.trans h.length⟩
theorem reads_with {D : Dev} {k j : Nat} {y z : Zone} (hk : D.zones[k]? = some y) (T : List ByteArray) (hs : z.sectors = y.sectors ++ T) (h5 : z.state = 5 → y.state = 5) : Reads D (withZ D k z) j := fun x hx => by
  by_cases hjk : k = j
  · subst hjk
    obtain rfl := Option.some.inj (hk.symm.trans hx)
    exact ⟨z, T, by simp only [withZ]; rw [List.getElem?_set_self (List.getElem?_eq_some_iff.1 hk).1], hs, h5⟩
  · exact ⟨x, [], by simp only [withZ]; rw [List.getElem?_set_ne hjk]; exact hx, by simp, id⟩
theorem reads_other {D : Dev} {k j : Nat} (z : Zone) (hjk : k ≠ j) : Reads D (withZ D k z) j := fun x hx => ⟨x, [], by simp only [withZ]; rw [List.getElem?_set_ne hjk]; exact hx, by simp, id⟩
/-- the states of a right zone -/
theorem open_state {s : Int} (h : openB s = true) : s = 1 ∨ s = 2 := by
  unfold openB at h
  simpa using h
theorem act_state {s : Int} (h : activeB s = true) : s = 1 ∨ s = 2 ∨ s = 3 := by
  unfold activeB openB at h
  simp at h
  omega
theorem reset_kept {D : Dev} {k : Nat} (hc : checkE D = 0) (hk : k < D.zones.length) : Kept D (resetR D (k : Int)) k ∧ ∀ j, j ≠ k → Reads D (resetR D (k : Int)) j := by
  obtain ⟨y, hy⟩ := zone_of hk
  by_cases hb : beginE D (k : Int) = 0
  · rw [resetR_yes hb]
    obtain ⟨h1, h2, h3, h4⟩ := check_parts hc
    have hp := config_parts h1
    refine ⟨kept_with (valid_with hc hy (right_empty (by omega)) ?_ ?_), fun j hj => reads_other _ (Ne.symm hj)⟩
    · rw [if_neg (by decide)]; omega
    · rw [if_neg (by decide)]; omega
  · rw [resetR_no hb]
    exact ⟨kept_refl hc k, fun j _ => reads_refl D j⟩
theorem finish_kept {D : Dev} {k : Nat} (hc : checkE D = 0) (hk : k < D.zones.length) : Kept D (finishR D (k : Int)) k ∧ ∀ j, Reads D (finishR D (k : Int)) j := by
  obtain ⟨y, hy⟩ := zone_of hk
  by_cases hb : beginE D (k : Int) = 0
  · rw [finishR_yes hb hy]
    obtain ⟨h1, h2, h3, h4⟩ := check_parts hc
    have hr := (right_iff _ _).1 (right_all h2 hy)
    refine ⟨kept_with (valid_with hc hy ?_ ?_ ?_), fun j => reads_with hy [] (by simp) (fun h => by cases h)⟩
    · rw [right_iff]
      refine ⟨?_, hr.2.1, ?_⟩
      · simp only
        omega
      · rw [if_neg (by simp), if_pos rfl]
    · rw [if_neg (by simp [openB])]; omega
    · rw [if_neg (by simp [activeB, openB])]; omega
  · rw [finishR_no hb]
    exact ⟨kept_refl hc k, fun j => reads_refl D j⟩
/-- closing an active zone -/
theorem shut_kept {D : Dev} {k : Nat} {y : Zone} (hc : checkE D = 0) (hy : D.zones[k]? = some y) (ha : activeB y.state = true) : Kept D (withZ D k (shut y)) k ∧ ∀ j, Reads D (withZ D k (shut y)) j := by
  obtain ⟨h1, h2, h3, h4⟩ := check_parts hc
  have hr := (right_iff _ _).1 (right_all h2 hy)
  have hst := act_state ha
  have hlen : (y.sectors.length : Int) < D.size := by
    have := hr.2.2
    rw [if_neg (by omega), if_neg (by omega)] at this
    exact this
  have hns : (shut y).state = 0 ∧ y.sectors.length = 0 ∨ (shut y).state = 3 ∧ y.sectors.length ≠ 0 := by
    unfold shut
    by_cases h : y.sectors.length = 0
    · exact .inl ⟨if_pos h, h⟩
    · exact .inr ⟨if_neg h, h⟩
  refine ⟨kept_with (valid_with hc hy ?_ ?_ ?_), fun j => reads_with hy [] (by simp [shut]) (fun h => by omega)⟩
  · rw [right_iff]
    have e1 : (shut y).durable = y.durable := rfl
    have e2 : (shut y).sectors = y.sectors := rfl
    rw [e1, e2]
    refine ⟨by omega, hr.2.1, ?_⟩
    rcases hns with ⟨h, h'⟩ | ⟨h, h'⟩
    · rw [if_pos (.inl h)]; exact h'
    · rw [if_neg (by omega), if_neg (by omega)]; exact hlen
  · have : openB (shut y).state = false := by rcases hns with ⟨h, _⟩ | ⟨h, _⟩ <;> rw [h] <;> rfl
    rw [this, if_neg (by decide)]; omega
  · rw [if_pos ha]
    split <;> omega
theorem close_kept {D : Dev} {k : Nat} (hc : checkE D = 0) (hk : k < D.zones.length) : Kept D (closeR D (k : Int)) k ∧ ∀ j, Reads D (closeR D (k : Int)) j := by
  obtain ⟨y, hy⟩ := zone_of hk
  unfold closeR
  split
  · rename_i he
    split
    · exact ⟨kept_refl hc k, fun j => reads_refl D j⟩
    · rw [Int.toNat_natCast, getD_of hy]
      refine shut_kept hc hy ?_
      unfold closeE at he
      split at he
      · rename_i hb; exact absurd he hb
      · split at he
        · rename_i h; rw [stateAt_of hy] at h; exact h
        · cases he
  · exact ⟨kept_refl hc k, fun j => reads_refl D j⟩
/-- making room -/
theorem cleared_kept {D : Dev} (hc : checkE D = 0) (h8 : ¬ (D.maxOpen ≤ countO D.zones ∧ firstOpen D.zones = D.zones.length)) (k : Nat) : Kept D (cleared D) k ∧ (∀ j, Reads D (cleared D) j) ∧ (countO (cleared D).zones : Int) < D.maxOpen ∧ countA (cleared D).zones ≤ countA D.zones := by
  obtain ⟨h1, h2, h3, h4⟩ := check_parts hc
  have hp := config_parts h1
  unfold cleared
  split
  · rename_i hO
    have hf : firstOpen D.zones < D.zones.length := by
      have := first_le D.zones
      rcases Nat.lt_or_ge (firstOpen D.zones) D.zones.length with h | h
      · exact h
      · exact absurd ⟨hO, by omega⟩ h8
    obtain ⟨y, hy⟩ := zone_of hf
    have hs := first_eq _ _ hy
    rw [getD_of hy]
    have ha : activeB y.state = true := by rw [hs]; rfl
    have hk := shut_kept hc hy ha
    have hcl := closing_counts hy hs
    refine ⟨⟨hk.1.valid, rfl, rfl, rfl, hk.1.length⟩, hk.2, ?_, hcl.2⟩
    show (countO (D.zones.set (firstOpen D.zones) (shut y)) : Int) < D.maxOpen
    omega
  · rename_i hO
    exact ⟨kept_refl hc k, fun j => reads_refl D j, by omega, Nat.le_refl _⟩
theorem room_no {D : Dev} {k : Nat} (h : roomE D k = 0) : ¬ (D.maxOpen ≤ countO D.zones ∧ firstOpen D.zones = D.zones.length) ∧ (activeB (D.zones.getD k empty).state = false → ¬ D.maxActive ≤ countA (cleared D).zones) := by
  unfold roomE at h
  split at h
  · cases h
  · rename_i h1
    split at h
    · cases h
    · rename_i h2
      exact ⟨h1, fun ha hm => h2 ⟨ha, hm⟩⟩
/-- a zone that is made open, or full, in a device that is ready for it -/
theorem ready_kept {D : Dev} {k : Nat} {y : Zone} (hc : checkE D = 0) (hy : D.zones[k]? = some y) (h : openB y.state = true ∨ roomE D k = 0) :
    Kept D (ready D (k : Int)) k ∧ (∀ j, Reads D (ready D (k : Int)) j) ∧ (ready D (k : Int)).zones[k]? = some y ∧
      countO (ready D (k : Int)).zones + 1 ≤ D.maxOpen.toNat + (if openB y.state = true then 1 else 0) ∧ countA (ready D (k : Int)).zones + 1 ≤ D.maxActive.toNat + (if activeB y.state = true then 1 else 0) := by
  obtain ⟨h1, h2, h3, h4⟩ := check_parts hc
  have hat := ready_at hy
  cases ho : openB y.state with
  | true =>
    have hrd : ready D (k : Int) = D := by unfold ready; rw [stateAt_of hy, if_pos ho]
    rw [hrd]
    have ha : activeB y.state = true := by simp [activeB, ho]
    rw [ha, if_pos rfl]
    exact ⟨kept_refl hc k, fun j => reads_refl D j, hy, by omega, by omega⟩
  | false =>
    have hE : roomE D k = 0 := by
      rcases h with h | h
      · rw [ho] at h; cases h
      · exact h
    have hrd : ready D (k : Int) = cleared D := by
      unfold ready
      rw [stateAt_of hy, ho, if_neg (by decide), Int.toNat_natCast]
      unfold roomR
      rw [if_pos hE]
    rw [hrd] at hat ⊢
    obtain ⟨r1, r2⟩ := room_no hE
    rw [getD_of hy] at r2
    obtain ⟨k1, k2, k3, k4⟩ := cleared_kept hc r1 k
    refine ⟨k1, k2, hat, by rw [if_neg (by decide)]; omega, ?_⟩
    cases ha : activeB y.state with
    | true => rw [if_pos rfl]; omega
    | false =>
      have := r2 ha
      rw [if_neg (by decide)]
      omega
theorem open_kept {D : Dev} {k : Nat} (hc : checkE D = 0) (hk : k < D.zones.length) : Kept D (openR D (k : Int)) k ∧ ∀ j, Reads D (openR D (k : Int)) j := by
  obtain ⟨y, hy⟩ := zone_of hk
  unfold openR
  split
  · rename_i he
    unfold openE at he
    split at he
    · rename_i hb; exact absurd he hb
    · rename_i hb
      have hb : beginE D (k : Int) = 0 := by omega
      obtain ⟨i, hi, -, -, h5⟩ := begin_range hb
      split at he
      · cases he
      · rename_i h4
        rw [stateAt_of hy] at h4 h5 he
        have hro : openB y.state = true ∨ roomE D k = 0 := by
          split at he
          · rename_i h; exact .inl h
          · exact .inr he
        obtain ⟨r1, r2, r3, r4, r5⟩ := ready_kept hc hy hro
        rw [Int.toNat_natCast, getD_of r3]
        have hr := (right_iff _ _).1 (right_all (check_parts hc).2.1 hy)
        have hlen : (y.sectors.length : Int) < D.size := by
          have := hr.2.2
          split at this
          · rename_i h0
            have := (config_parts (check_parts hc).1).2.2.1
            omega
          · first | exact this | (rw [if_neg h4] at this; exact this)
        have hv : checkE (withZ (ready D (k : Int)) k (held y)) = 0 := by
          refine valid_with r1.valid r3 ?_ ?_ ?_
          · rw [right_iff, r1.size]
            refine ⟨⟨by simp [held], by simp [held], hr.1.2.2.1, hr.1.2.2.2.1, hr.1.2.2.2.2⟩, hr.2.1, ?_⟩
            rw [if_neg (by simp [held]), if_neg (by simp [held])]
            exact hlen
          · rw [r1.op, show openB (held y).state = true from rfl, if_pos rfl]; exact r4
          · rw [r1.act, show activeB (held y).state = true from rfl, if_pos rfl]; exact r5
        exact ⟨kept_trans r1 (kept_with hv), fun j => reads_trans (r2 j) (reads_with r3 [] (by simp [held]) (fun h => by simp [held] at h))⟩
  · exact ⟨kept_refl hc k, fun j => reads_refl D j⟩
theorem sizes_app {L : List ByteArray} {s : ByteArray} (h : sizesB L = true) (hs : s.size = 40) : sizesB (L ++ [s]) = true := by
  rw [sizesB_snoc, h, hs]; rfl
theorem append_kept {D : Dev} {k : Nat} {s : ByteArray} (hc : checkE D = 0) (hk : k < D.zones.length) : Kept D (appendR D (k : Int) s) k ∧ ∀ j, Reads D (appendR D (k : Int) s) j := by
  obtain ⟨y, hy⟩ := zone_of hk
  unfold appendR
  split
  · rename_i he
    unfold appendE at he
    split at he
    · rename_i hb; exact absurd he hb
    · split at he
      · cases he
      · rename_i hs
        split at he
        · cases he
        · rename_i h5
          split at he
          · cases he
          · rename_i h4
            rw [stateAt_of hy] at h4 h5 he
            have hs : s.size = 40 := by omega
            have hro : openB y.state = true ∨ roomE D k = 0 := by
              split at he
              · rename_i h; exact .inl h
              · exact .inr he
            obtain ⟨r1, r2, r3, r4, r5⟩ := ready_kept hc hy hro
            rw [Int.toNat_natCast, getD_of r3]
            have hr := (right_iff _ _).1 (right_all (check_parts hc).2.1 hy)
            have hlen : (y.sectors.length : Int) < D.size := by
              have := hr.2.2
              split at this
              · rename_i h0
                have := (config_parts (check_parts hc).1).2.2.1
                omega
              · first | exact this | (rw [if_neg h4] at this; exact this)
            have hsz := sizes_app hr.2.1 hs
            have hv : checkE (withZ (ready D (k : Int)) k (appended y s D.size)) = 0 := by
              unfold appended
              split
              · rename_i hf
                refine valid_with r1.valid r3 ?_ ?_ ?_
                · rw [right_iff, r1.size]
                  refine ⟨?_, hsz, ?_⟩
                  · simp only [List.length_append, List.length_singleton]
                    omega
                  · rw [if_neg (by simp), if_pos rfl]
                    simp only [List.length_append, List.length_singleton]
                    omega
                · rw [r1.op, show openB (4 : Int) = false from rfl, if_neg (by decide)]; omega
                · rw [r1.act, show activeB (4 : Int) = false from rfl, if_neg (by decide)]; omega
              · rename_i hf
                have hst : (if openB y.state = true then y.state else 1) = 1 ∨ (if openB y.state = true then y.state else 1) = 2 := by
                  split
                  · rename_i h; exact open_state h
                  · exact .inl rfl
                generalize (if openB y.state = true then y.state else 1) = st at hst
                have o1 : openB st = true := by rcases hst with rfl | rfl <;> rfl
                have a1 : activeB st = true := by rcases hst with rfl | rfl <;> rfl
                refine valid_with r1.valid r3 ?_ ?_ ?_
                · rw [right_iff, r1.size]
                  refine ⟨?_, hsz, ?_⟩
                  · simp only [List.length_append, List.length_singleton]
                    omega
                  · simp only [List.length_append, List.length_singleton]
                    rw [if_neg (by omega), if_neg (by omega)]
                    omega
                · rw [r1.op, o1, if_pos rfl]; exact r4
                · rw [r1.act, a1, if_pos rfl]; exact r5
            refine ⟨kept_trans r1 (kept_with hv), fun j => reads_trans (r2 j) (reads_with r3 [s] (appended_sectors y s D.size) (fun h => ?_))⟩
            unfold appended at h
            split at h
            · cases h
            · simp only at h
              split at h
              · exact h
              · cases h
  · exact ⟨kept_refl hc k, fun j => reads_refl D j⟩
end Go.Proofs.Ytlmlmgegnnikeaa

/- Zoned devices as plain lists: what a step of the laws answers. -/
namespace Go.Proofs.Ytlmlmgegnnikeaa
open ZnsMath

/-- what is known behind a step at a zone -/
structure Step (D X : Dev) (z : Nat) (k E : Int) : Prop where
  kept : Kept D X z
  same : E ≠ 0 → X = D
  reads : ∀ j, (k ≠ 0 ∨ j ≠ z ∨ E ≠ 0) → Reads D X j
  opens : E = 8 → (countO D.zones : Int) = D.maxOpen
  acts : E = 9 → D.maxActive ≤ countA D.zones
theorem begin_err {D : Dev} (hc : checkE D = 0) (k : Int) : beginE D k = 0 ∨ beginE D k = 5 ∨ beginE D k = 6 := by
  unfold beginE zoneE
  rw [hc]
  by_cases h : k < 0 ∨ (D.zones.length : Int) ≤ k
  · simp [h]
  · by_cases h5 : stateAt D k = 5 <;> simp [h, h5]
theorem room_err {D : Dev} (hc : checkE D = 0) (k : Nat) : (roomE D k = 8 → (countO D.zones : Int) = D.maxOpen) ∧ (roomE D k = 9 → D.maxActive ≤ countA D.zones) := by
  obtain ⟨-, -, h3, h4⟩ := check_parts hc
  unfold roomE
  by_cases h1 : D.maxOpen ≤ countO D.zones ∧ firstOpen D.zones = D.zones.length
  · rw [if_pos h1]
    exact ⟨fun _ => by omega, fun h => by omega⟩
  · rw [if_neg h1]
    have hk := (cleared_kept hc h1 k).2.2.2
    by_cases h2 : activeB (D.zones.getD k empty).state = false ∧ D.maxActive ≤ countA (cleared D).zones
    · rw [if_pos h2]
      exact ⟨fun h => by omega, fun _ => by omega⟩
    · rw [if_neg h2]
      exact ⟨fun h => by omega, fun h => by omega⟩
theorem step_reset {D : Dev} {z : Nat} (hc : checkE D = 0) (hz : z < D.zones.length) : Step D (resetR D (z : Int)) z 0 (beginE D (z : Int)) := by
  have hk := reset_kept hc hz
  have he := begin_err hc (z : Int)
  refine ⟨hk.1, fun h => resetR_no h, fun j h => ?_, fun h => by omega, fun h => by omega⟩
  rcases h with h | h | h
  · exact absurd rfl h
  · exact hk.2 j h
  · rw [resetR_no h]; exact reads_refl D j
theorem step_finish {D : Dev} {z : Nat} (hc : checkE D = 0) (hz : z < D.zones.length) : Step D (finishR D (z : Int)) z 1 (beginE D (z : Int)) := by
  have hk := finish_kept hc hz
  have he := begin_err hc (z : Int)
  exact ⟨hk.1, fun h => finishR_no h, fun j _ => hk.2 j, fun h => by omega, fun h => by omega⟩
theorem step_open {D : Dev} {z : Nat} (hc : checkE D = 0) (hz : z < D.zones.length) : Step D (openR D (z : Int)) z 2 (openE D (z : Int)) := by
  have hk := open_kept hc hz
  have he := begin_err hc (z : Int)
  have hr := room_err hc z
  have hx : openE D (z : Int) = 0 ∨ openE D (z : Int) = 5 ∨ openE D (z : Int) = 6 ∨ openE D (z : Int) = 7 ∨ openE D (z : Int) = roomE D z := by
    unfold openE
    rw [Int.toNat_natCast]
    split
    · omega
    · split
      · omega
      · split <;> omega
  refine ⟨hk.1, fun h => by unfold openR; rw [if_neg h], fun j _ => hk.2 j, fun h => ?_, fun h => ?_⟩
  · exact hr.1 (by omega)
  · exact hr.2 (by omega)
theorem step_close {D : Dev} {z : Nat} (hc : checkE D = 0) (hz : z < D.zones.length) : Step D (closeR D (z : Int)) z 3 (closeE D (z : Int)) := by
  have hk := close_kept hc hz
  have he := begin_err hc (z : Int)
  have hx : closeE D (z : Int) = 0 ∨ closeE D (z : Int) = 5 ∨ closeE D (z : Int) = 6 := by
    unfold closeE
    split
    · omega
    · split <;> omega
  exact ⟨hk.1, fun h => by unfold closeR; rw [if_neg h], fun j _ => hk.2 j, fun h => by omega, fun h => by omega⟩
theorem step_append {D : Dev} {z : Nat} (s : ByteArray) (hc : checkE D = 0) (hz : z < D.zones.length) (k : Int) : Step D (appendR D (z : Int) s) z k (appendE D (z : Int) s) := by
  have hk := append_kept (s := s) hc hz
  have hr := room_err hc z
  have hzz : zoneE D (z : Int) = 0 := by unfold zoneE; rw [hc, if_neg (by decide), if_neg (by omega)]
  have hx : appendE D (z : Int) s = 0 ∨ appendE D (z : Int) s = 2 ∨ appendE D (z : Int) s = 6 ∨ appendE D (z : Int) s = 7 ∨ appendE D (z : Int) s = roomE D z := by
    unfold appendE
    rw [Int.toNat_natCast, hzz, if_neg (by decide)]
    split
    · omega
    · split
      · omega
      · split
        · omega
        · split <;> omega
  refine ⟨hk.1, fun h => by unfold appendR; rw [if_neg h], fun j _ => hk.2 j, fun h => ?_, fun h => ?_⟩
  · exact hr.1 (by omega)
  · exact hr.2 (by omega)
/-- behind an append that went through: the offset, and one sector more -/
theorem append_more {D : Dev} {z : Nat} {s : ByteArray} {y : Zone} (hy : D.zones[z]? = some y) (he : appendE D (z : Int) s = 0) :
    appendO D (z : Int) s = (y.sectors.length : Int) ∧ ∃ x, (appendR D (z : Int) s).zones[z]? = some x ∧ x.sectors.length = y.sectors.length + 1 := by
  have hat := ready_at hy
  have ho : appendO D (z : Int) s = (y.sectors.length : Int) := by
    unfold appendO
    rw [if_pos he, Int.toNat_natCast, getD_of hat]
  refine ⟨ho, appended y s D.size, ?_, by rw [appended_sectors]; simp⟩
  unfold appendR
  rw [if_pos he, Int.toNat_natCast, getD_of hat]
  simp only [withZ]
  rw [List.getElem?_set_self (List.getElem?_eq_some_iff.1 hat).1]
end Go.Proofs.Ytlmlmgegnnikeaa

/- A region that leaves its order open, walked by a plan in which two operations may come up at one time. Every law holds for any program. -/
namespace Go.Proofs.Ytlmlmgegnnikeaa.Tree
open Go.RowKit

/-- A plan: one that may be taken first, one that alone may come up, and two of which either may. -/
inductive T (α : Type) where
  | done
  | take (k : α) (r : T α)
  | only (k : α) (r : T α)
  | fork (k : α) (r : T α) (l : α) (s : T α)
def T.map {α β : Type} (f : α → β) : T α → T β
  | .done => .done
  | .take k r => .take (f k) (r.map f)
  | .only k r => .only (f k) (r.map f)
  | .fork k r l s => .fork (f k) (r.map f) (f l) (s.map f)
def T.size {α : Type} : T α → Nat
  | .done => 0
  | .take _ r => r.size + 1
  | .only _ r => r.size + 1
  | .fork _ r _ _ => r.size + 1
def good (md : Region.Mode) (ops : Array Oper) : T Nat → Array Bool → Bool
  | .done, listed => (Region.ready md ops listed).isEmpty
  | .take k r, listed => (Region.ready md ops listed).contains k && Region.free md ops listed k && good md ops r (listed.setIfInBounds k true)
  | .only k r, listed => (Region.ready md ops listed == [k]) && good md ops r (listed.setIfInBounds k true)
  | .fork k r l s, listed => (Region.ready md ops listed == [k, l]) && (r.size == s.size) && good md ops r (listed.setIfInBounds k true) && good md ops s (listed.setIfInBounds l true)
def goes (P : Program) (ops : Array Oper) (Q : Exit → Act → World → Prop) (S : World → Prop) : T (Option Oper) → Act → World → Prop
  | .done, a, w => Q .normal a w
  | .take none _, _, _ => False
  | .take (some o) r, a, w => ∃ v, YieldsIf P ops S o v a ∧ goes P ops Q S r (a.put o.dst v) w
  | .only none _, _, _ => False
  | .only (some o) r, a, w => ∃ R : Act → World → Prop, (∀ a' w', R a' w' → S w' ∧ goes P ops Q S r a' w') ∧ (if Region.wanted o (yielded ops a.tmps) then o.wp P a w R Q else R (a.put o.dst undef) w)
  | .fork none _ _ _, _, _ => False
  | .fork _ _ none _, _, _ => False
  | .fork (some o) r (some p) s, a, w => (∃ R : Act → World → Prop, (∀ a' w', R a' w' → S w' ∧ goes P ops Q S r a' w') ∧ (if Region.wanted o (yielded ops a.tmps) then o.wp P a w R Q else R (a.put o.dst undef) w)) ∧
      (∃ R : Act → World → Prop, (∀ a' w', R a' w' → S w' ∧ goes P ops Q S s a' w') ∧ (if Region.wanted p (yielded ops a.tmps) then p.wp P a w R Q else R (a.put p.dst undef) w))
section
variable {P : Program} {ops : Array Oper} {Q : Exit → Act → World → Prop} {S : World → Prop}
theorem one {i : Nat} {o : Oper} {a : Act} {w : World} {n : Nat} {listed : Array Bool} {G : Act → World → Prop} (ho : ops[i]? = some o)
    (h : ∃ R : Act → World → Prop, (∀ a' w', R a' w' → S w' ∧ G a' w') ∧ (if Region.wanted o (yielded ops a.tmps) then o.wp P a w R Q else R (a.put o.dst undef) w))
    (hG : ∀ a' w', S w' → G a' w' → wpAnyH P .any ops Q S n (listed.setIfInBounds i true) a' w') :
    wpOp P ops Q i (fun a' w' => S w' ∧ wpAnyH P .any ops Q S n (listed.setIfInBounds i true) a' w') a w := by
  obtain ⟨R, hR, hr⟩ := h
  have hw : wpOp P ops Q i R a w := by
    unfold wpOp
    simp only [ho]
    split
    · rename_i hw
      rw [if_pos hw] at hr
      exact .inl hr
    · rename_i hw
      rw [if_neg hw] at hr
      exact hr
  exact wpOp_mono (fun a' w' h' => ⟨(hR a' w' h').1, hG a' w' (hR a' w' h').1 (hR a' w' h').2⟩) hw
theorem held_of_goes (hs : Region.noSelect ops = true) (hQ : ∀ c a d v w, Q (.panic c) (Act.put a d v) w → Q (.panic c) a w) :
    ∀ (plan : T Nat) (listed : Array Bool) (a : Act) (w : World), good .any ops plan listed = true → S w →
      goes P ops Q S (plan.map fun p => ops[p]?) a w → wpAnyH P .any ops Q S plan.size listed a w
  | .done, listed, a, w, hB, _, h => by
    refine wpAnyH_done ?_ h 0
    simpa [good] using hB
  | .take k r, listed, a, w, hB, hS, h => by
    simp only [good, Bool.and_eq_true] at hB
    simp only [T.map] at h
    cases ho : ops[k]? with
    | none => rw [ho] at h; exact h.elim
    | some o =>
      rw [ho] at h
      obtain ⟨v, hy, hr⟩ := h
      exact wpAnyH_take ho hs hB.1.2 hB.1.1 (fun c a w => hQ c a o.dst v w) hy hS (held_of_goes hs hQ r _ _ _ hB.2 hS hr)
  | .only k r, listed, a, w, hB, hS, h => by
    simp only [good, Bool.and_eq_true, beq_iff_eq] at hB
    simp only [T.map] at h
    refine wpAnyH_all hB.1 (by simp) fun i hi => ?_
    have hik : i = k := by simpa using hi
    subst hik
    cases ho : ops[i]? with
    | none => rw [ho] at h; exact h.elim
    | some o =>
      rw [ho] at h
      exact one ho h fun a' w' hS' hg => held_of_goes hs hQ r _ _ _ hB.2 hS' hg
  | .fork k r l s, listed, a, w, hB, hS, h => by
    simp only [good, Bool.and_eq_true, beq_iff_eq] at hB
    simp only [T.map] at h
    refine wpAnyH_all hB.1.1.1 (by simp) fun i hi => ?_
    cases ho : ops[k]? with
    | none => rw [ho] at h; exact h.elim
    | some o =>
      cases hp : ops[l]? with
      | none => rw [ho, hp] at h; exact h.elim
      | some p =>
        rw [ho, hp] at h
        have hik : i = k ∨ i = l := by simpa using hi
        rcases hik with rfl | rfl
        · exact one ho h.1 fun a' w' hS' hg => held_of_goes hs hQ r _ _ _ hB.1.2 hS' hg
        · have := one (n := s.size) (listed := listed) hp h.2 fun a' w' hS' hg => held_of_goes hs hQ s _ _ _ hB.2 hS' hg
          rw [← hB.1.1.2] at this
          exact this
/-- THE BEGINNING: S is what the region keeps to. -/
theorem start {id : Nat} {a : Act} {w : World} (S : World → Prop) (plan : T Nat) (hm : P.follows .mixedOrders = true) (hs : Region.noSelect ops = true) (hl : plan.size = ops.size)
    (hB : good .any ops plan (Array.replicate ops.size false) = true) (hS : S w.drew)
    (h : goes P ops (NoPanic Q) S (plan.map fun p => ops[p]?) a w.drew) : (Code.region id ops true).wp P Q a w :=
  wp_region_noPanic (wp_region_held hm (by
    have := held_of_goes (P := P) (Q := NoPanic Q) (S := S) hs (fun _ _ _ _ _ h => h) plan (Array.replicate ops.size false) a w.drew hB hS h
    rw [hl] at this
    exact this))
/-- THE END. -/
theorem ends {Q : Exit → Act → World → Prop} {a : Act} {w : World} (h : Q .normal a w) : goes P ops (NoPanic Q) S .done a w := h
theorem take {o : Oper} {r : T (Option Oper)} {a : Act} {w : World} (v : Value) (hw : Region.wanted o (yielded ops a.tmps) = true) (hv : ∀ w, S w → (execOp a.eval o).run P w = .ok (.value v) w)
    (h : goes P ops Q S r (a.put o.dst v) w) : goes P ops Q S (.take (some o) r) a w := ⟨v, .inl ⟨hw, hv⟩, h⟩
theorem carryR {o : Oper} {r : T (Option Oper)} {a : Act} {w : World} (hw : Region.wanted o (yielded ops a.tmps) = true)
    (h : o.wp P a w (fun a' w' => S w' ∧ goes P ops Q S r a' w') Q) : ∃ R : Act → World → Prop, (∀ a' w', R a' w' → S w' ∧ goes P ops Q S r a' w') ∧ (if Region.wanted o (yielded ops a.tmps) then o.wp P a w R Q else R (a.put o.dst undef) w) :=
  ⟨fun a' w' => S w' ∧ goes P ops Q S r a' w', fun _ _ h => h, by rw [if_pos hw]; exact h⟩
theorem only {o : Oper} {r : T (Option Oper)} {a : Act} {w : World} (hw : Region.wanted o (yielded ops a.tmps) = true)
    (h : o.wp P a w (fun a' w' => S w' ∧ goes P ops Q S r a' w') Q) : goes P ops Q S (.only (some o) r) a w := carryR hw h
theorem fork {o p : Oper} {r s : T (Option Oper)} {a : Act} {w : World} (hw : Region.wanted o (yielded ops a.tmps) = true) (hv : Region.wanted p (yielded ops a.tmps) = true)
    (h : o.wp P a w (fun a' w' => S w' ∧ goes P ops Q S r a' w') Q) (k : p.wp P a w (fun a' w' => S w' ∧ goes P ops Q S s a' w') Q) : goes P ops Q S (.fork (some o) r (some p) s) a w := ⟨carryR hw h, carryR hv k⟩
/-- A call of a Go function, by its contract. -/
theorem wp_call {o : Oper} {a : Act} {w : World} {K : Act → World → Prop} (f : FuncId) (vs : Array Value) {R : Ending → World → Prop}
    (ho : (execOp a.eval o).run P w = .ok (.enter f vs) w) (hc : Calls P f vs w R)
    (h : ∀ e w', R e w' → ∃ v, e = .returned v ∧ K (a.put o.dst v) w') : o.wp P a w K Q := by
  unfold Oper.wp
  rw [ho]
  simp only [Oper.upon]
  refine hc.mono fun e w' he => ?_
  obtain ⟨v, rfl, hg⟩ := h e w' he
  exact hg
/-- One that makes memory. -/
theorem wp_make {o : Oper} {a : Act} {w : World} {K : Act → World → Prop} (v : Value) (w1 : World)
    (ho : (execOp a.eval o).run P w = .ok (.value v) w1) (h : K (a.put o.dst v) w1) : o.wp P a w K Q := by
  unfold Oper.wp
  rw [ho]
  exact h
end
end Go.Proofs.Ytlmlmgegnnikeaa.Tree

/- The walk of the laws' step at a zone. -/
namespace Go.Proofs.Ytlmlmgegnnikeaa
open Go.RowKit Plan ZnsMath

/-- what a step of the laws leaves -/
def StepPost (w : World) (F : Nat → Prop) (D : Dev) (n z : Nat) (k : Int) (e : Ending) (w' : World) : Prop :=
  ∃ (X : Dev) (E : Int) (a' : Option Addr) (cap' : Nat), e = .returned (.tuple #[devV X a' n cap', .int .i64 E]) ∧ ZonesIn w' (Plus F w.heap.size) a' n cap' X.zones ∧ Step D X z k E ∧ Below w.heap.size w w'
set_option maxHeartbeats 2000000 in
set_option maxRecDepth 20000 in
theorem step_reset_any (F : Nat → Prop) (D : Dev) (a : Option Addr) (n cap i : Nat) (w : World) (hF : ∀ b, F b → b < w.heap.size) (hz : ZonesIn w F a n cap D.zones) (hm : n ≤ 1000000) (hc : checkE D = 0) (hi : i < n) :
    Calls Try.prog 20 #[devV D a n cap, .int .i64 (i : Int), .int .i64 0] w (StepPost w F D n i 0) := by
  have hl := hz.is.length
  have hst := step_reset hc (z := i) (by omega)
  have hop := fun W (h : Below w.heap.size w W) => reset_any F D a n cap (i : Int) W (fun b hb => Nat.lt_of_lt_of_le (hF b hb) h.size) (hz.on (Agree.below h)) hm
  have hA : Below w.heap.size w ((w.alloc (devRow D.size D.maxOpen D.maxActive a n cap)).alloc (devRow 0 0 0 none 0 0)) := ((Below.refl _ _).alloc (Nat.le_refl _) _).alloc (by simp) _
  generalize resetR D (i : Int) = R at *
  generalize beginE D (i : Int) = E at *
  unfold DevPost at hop
  unfold StepPost
  have HO := Lib.hid hop
  have HT := Lib.hid hst
  have HA := Lib.hid hA
  clear hop hst hA
  obtain ⟨size, op, act, Z⟩ := D
  obtain ⟨rs, ro, ra, RZ⟩ := R
  go_enter Try.func20, Try.ntmps20
  go_wp2_with (first
    | (go_at_call 27; ((with_reducible refine (HO.out _ HA.out).mono ?_); rintro e w3 ⟨a3, c3, rfl, hz3, hb3⟩; have hr3 := row_on hb3 (heap_second w _ _) (by simp only [World.size_alloc]; omega)))
    | ((with_reducible refine Plan.store_lit 24 (.tmp 6) _ (w.heap.size + 1) ?_ hr3 ?_ ?_ ?_ ?_ ?_ ?_); rotate_left; (· rfl); (· rfl); (· exact dev_info); (· rfl); (· simp [Value.oneCell']); simp only [Act.put]))
  have b3 := HA.out.trans (hb3.mono (by simp only [World.size_alloc]; omega))
  have hz4 := hz3.on (Agree.row (plus_not hF (by omega) (by simp only [World.size_alloc]; omega) : ¬ Plus F ((w.alloc (devRow size op act a n cap)).alloc (devRow 0 0 0 none 0 0)).heap.size (w.heap.size + 1)) #[.int .i64 rs, .int .i64 ro, .int .i64 ra, .slice a3 n c3])
  refine bodyPost_ret (Plan.results_cell_tmp (p := 6) (q := 7) rfl _ _ _ _ _ _ _ rfl (setRow_heap _ _ _ _ _ _ hr3) Try.underlying24 rfl dev_info) rfl ⟨⟨rs, ro, ra, RZ⟩, E, a3, c3, rfl, hz4.mono (fun b _ hb => hb.imp id (fun h => Nat.le_trans (by simp only [World.size_alloc]; omega) h)), HT.out, below_setRow b3 (by omega) _⟩
set_option maxHeartbeats 2000000 in
set_option maxRecDepth 20000 in
theorem step_finish_any (F : Nat → Prop) (D : Dev) (a : Option Addr) (n cap i : Nat) (w : World) (hF : ∀ b, F b → b < w.heap.size) (hz : ZonesIn w F a n cap D.zones) (hm : n ≤ 1000000) (hc : checkE D = 0) (hi : i < n) :
    Calls Try.prog 20 #[devV D a n cap, .int .i64 (i : Int), .int .i64 1] w (StepPost w F D n i 1) := by
  have hl := hz.is.length
  have hst := step_finish hc (z := i) (by omega)
  have hop := fun W (h : Below w.heap.size w W) => finish_any F D a n cap (i : Int) W (fun b hb => Nat.lt_of_lt_of_le (hF b hb) h.size) (hz.on (Agree.below h)) hm
  have hA : Below w.heap.size w ((w.alloc (devRow D.size D.maxOpen D.maxActive a n cap)).alloc (devRow 0 0 0 none 0 0)) := ((Below.refl _ _).alloc (Nat.le_refl _) _).alloc (by simp) _
  generalize finishR D (i : Int) = R at *
  generalize beginE D (i : Int) = E at *
  unfold DevPost at hop
  unfold StepPost
  have HO := Lib.hid hop
  have HT := Lib.hid hst
  have HA := Lib.hid hA
  clear hop hst hA
  obtain ⟨size, op, act, Z⟩ := D
  obtain ⟨rs, ro, ra, RZ⟩ := R
  go_enter Try.func20, Try.ntmps20
  go_wp2_with (first
    | (go_at_call 29; ((with_reducible refine (HO.out _ HA.out).mono ?_); rintro e w3 ⟨a3, c3, rfl, hz3, hb3⟩; have hr3 := row_on hb3 (heap_second w _ _) (by simp only [World.size_alloc]; omega)))
    | ((with_reducible refine Plan.store_lit 24 (.tmp 6) _ (w.heap.size + 1) ?_ hr3 ?_ ?_ ?_ ?_ ?_ ?_); rotate_left; (· rfl); (· rfl); (· exact dev_info); (· rfl); (· simp [Value.oneCell']); simp only [Act.put]))
  have b3 := HA.out.trans (hb3.mono (by simp only [World.size_alloc]; omega))
  have hz4 := hz3.on (Agree.row (plus_not hF (by omega) (by simp only [World.size_alloc]; omega) : ¬ Plus F ((w.alloc (devRow size op act a n cap)).alloc (devRow 0 0 0 none 0 0)).heap.size (w.heap.size + 1)) #[.int .i64 rs, .int .i64 ro, .int .i64 ra, .slice a3 n c3])
  refine bodyPost_ret (Plan.results_cell_tmp (p := 6) (q := 7) rfl _ _ _ _ _ _ _ rfl (setRow_heap _ _ _ _ _ _ hr3) Try.underlying24 rfl dev_info) rfl ⟨⟨rs, ro, ra, RZ⟩, E, a3, c3, rfl, hz4.mono (fun b _ hb => hb.imp id (fun h => Nat.le_trans (by simp only [World.size_alloc]; omega) h)), HT.out, below_setRow b3 (by omega) _⟩
set_option maxHeartbeats 2000000 in
set_option maxRecDepth 20000 in
theorem step_open_any (F : Nat → Prop) (D : Dev) (a : Option Addr) (n cap i : Nat) (w : World) (hF : ∀ b, F b → b < w.heap.size) (hz : ZonesIn w F a n cap D.zones) (hm : n ≤ 1000000) (hc : checkE D = 0) (hi : i < n) :
    Calls Try.prog 20 #[devV D a n cap, .int .i64 (i : Int), .int .i64 2] w (StepPost w F D n i 2) := by
  have hl := hz.is.length
  have hst := step_open hc (z := i) (by omega)
  have hop := fun W (h : Below w.heap.size w W) => open_any F D a n cap (i : Int) W (fun b hb => Nat.lt_of_lt_of_le (hF b hb) h.size) (hz.on (Agree.below h)) hm
  have hA : Below w.heap.size w ((w.alloc (devRow D.size D.maxOpen D.maxActive a n cap)).alloc (devRow 0 0 0 none 0 0)) := ((Below.refl _ _).alloc (Nat.le_refl _) _).alloc (by simp) _
  generalize openR D (i : Int) = R at *
  generalize openE D (i : Int) = E at *
  unfold DevPost at hop
  unfold StepPost
  have HO := Lib.hid hop
  have HT := Lib.hid hst
  have HA := Lib.hid hA
  clear hop hst hA
  obtain ⟨size, op, act, Z⟩ := D
  obtain ⟨rs, ro, ra, RZ⟩ := R
  go_enter Try.func20, Try.ntmps20
  go_wp2_with (first
    | (go_at_call 31; ((with_reducible refine (HO.out _ HA.out).mono ?_); rintro e w3 ⟨a3, c3, rfl, hz3, hb3⟩; have hr3 := row_on hb3 (heap_second w _ _) (by simp only [World.size_alloc]; omega)))
    | ((with_reducible refine Plan.store_lit 24 (.tmp 6) _ (w.heap.size + 1) ?_ hr3 ?_ ?_ ?_ ?_ ?_ ?_); rotate_left; (· rfl); (· rfl); (· exact dev_info); (· rfl); (· simp [Value.oneCell']); simp only [Act.put]))
  have b3 := HA.out.trans (hb3.mono (by simp only [World.size_alloc]; omega))
  have hz4 := hz3.on (Agree.row (plus_not hF (by omega) (by simp only [World.size_alloc]; omega) : ¬ Plus F ((w.alloc (devRow size op act a n cap)).alloc (devRow 0 0 0 none 0 0)).heap.size (w.heap.size + 1)) #[.int .i64 rs, .int .i64 ro, .int .i64 ra, .slice a3 n c3])
  refine bodyPost_ret (Plan.results_cell_tmp (p := 6) (q := 7) rfl _ _ _ _ _ _ _ rfl (setRow_heap _ _ _ _ _ _ hr3) Try.underlying24 rfl dev_info) rfl ⟨⟨rs, ro, ra, RZ⟩, E, a3, c3, rfl, hz4.mono (fun b _ hb => hb.imp id (fun h => Nat.le_trans (by simp only [World.size_alloc]; omega) h)), HT.out, below_setRow b3 (by omega) _⟩
set_option maxHeartbeats 2000000 in
set_option maxRecDepth 20000 in
theorem step_close_any (F : Nat → Prop) (D : Dev) (a : Option Addr) (n cap i : Nat) (w : World) (hF : ∀ b, F b → b < w.heap.size) (hz : ZonesIn w F a n cap D.zones) (hm : n ≤ 1000000) (hc : checkE D = 0) (hi : i < n) :
    Calls Try.prog 20 #[devV D a n cap, .int .i64 (i : Int), .int .i64 3] w (StepPost w F D n i 3) := by
  have hl := hz.is.length
  have hst := step_close hc (z := i) (by omega)
  have hop := fun W (h : Below w.heap.size w W) => close_any F D a n cap (i : Int) W (fun b hb => Nat.lt_of_lt_of_le (hF b hb) h.size) (hz.on (Agree.below h)) hm
  have hA : Below w.heap.size w ((w.alloc (devRow D.size D.maxOpen D.maxActive a n cap)).alloc (devRow 0 0 0 none 0 0)) := ((Below.refl _ _).alloc (Nat.le_refl _) _).alloc (by simp) _
  generalize closeR D (i : Int) = R at *
  generalize closeE D (i : Int) = E at *
  unfold DevPost at hop
  unfold StepPost
  have HO := Lib.hid hop
  have HT := Lib.hid hst
  have HA := Lib.hid hA
  clear hop hst hA
  obtain ⟨size, op, act, Z⟩ := D
  obtain ⟨rs, ro, ra, RZ⟩ := R
  go_enter Try.func20, Try.ntmps20
  go_wp2_with (first
    | (go_at_call 33; ((with_reducible refine (HO.out _ HA.out).mono ?_); rintro e w3 ⟨a3, c3, rfl, hz3, hb3⟩; have hr3 := row_on hb3 (heap_second w _ _) (by simp only [World.size_alloc]; omega)))
    | ((with_reducible refine Plan.store_lit 24 (.tmp 6) _ (w.heap.size + 1) ?_ hr3 ?_ ?_ ?_ ?_ ?_ ?_); rotate_left; (· rfl); (· rfl); (· exact dev_info); (· rfl); (· simp [Value.oneCell']); simp only [Act.put]))
  have b3 := HA.out.trans (hb3.mono (by simp only [World.size_alloc]; omega))
  have hz4 := hz3.on (Agree.row (plus_not hF (by omega) (by simp only [World.size_alloc]; omega) : ¬ Plus F ((w.alloc (devRow size op act a n cap)).alloc (devRow 0 0 0 none 0 0)).heap.size (w.heap.size + 1)) #[.int .i64 rs, .int .i64 ro, .int .i64 ra, .slice a3 n c3])
  refine bodyPost_ret (Plan.results_cell_tmp (p := 6) (q := 7) rfl _ _ _ _ _ _ _ rfl (setRow_heap _ _ _ _ _ _ hr3) Try.underlying24 rfl dev_info) rfl ⟨⟨rs, ro, ra, RZ⟩, E, a3, c3, rfl, hz4.mono (fun b _ hb => hb.imp id (fun h => Nat.le_trans (by simp only [World.size_alloc]; omega) h)), HT.out, below_setRow b3 (by omega) _⟩
set_option maxHeartbeats 2000000 in
set_option maxRecDepth 20000 in
theorem step_append_err (F : Nat → Prop) (D : Dev) (a : Option Addr) (n cap i : Nat) (w : World) (hF : ∀ b, F b → b < w.heap.size) (hz : ZonesIn w F a n cap D.zones) (hm : n ≤ 1000000) (hc : checkE D = 0) (hi : i < n) (k : Int) (hk0 : (k == 0) = false) (hk1 : (k == 1) = false) (hk2 : (k == 2) = false) (hk3 : (k == 3) = false) (S : ByteArray) (hS : ∀ W, Calls Try.prog 17 #[.agg #[.int .i64 2, .int .i64 0, .int .i64 9, .int .i64 0, .string ⟨#[]⟩]] W fun e w' => e = .returned (.string S) ∧ Below W.heap.size W w') (hE : appendE D (i : Int) S ≠ 0) :
    Calls Try.prog 20 #[devV D a n cap, .int .i64 (i : Int), .int .i64 k] w (StepPost w F D n i k) := by
  have hl := hz.is.length
  have hiI : (i : Int) < (n : Int) := by omega
  have hst := step_append S hc (z := i) (by omega) k
  have hop := fun W (h : Below w.heap.size w W) => append_any F D a n cap (i : Int) S W (fun b hb => Nat.lt_of_lt_of_le (hF b hb) h.size) (hz.on (Agree.below h)) hm
  have hA : Below w.heap.size w ((w.alloc (devRow D.size D.maxOpen D.maxActive a n cap)).alloc (devRow 0 0 0 none 0 0)) := ((Below.refl _ _).alloc (Nat.le_refl _) _).alloc (by simp) _
  generalize appendR D (i : Int) S = R at *
  generalize appendE D (i : Int) S = E at *
  generalize appendO D (i : Int) S = O at *
  have he0 : (E == 0) = false := by simp [hE]
  obtain ⟨rs, ro, ra, RZ⟩ := R
  unfold AppPost at hop
  unfold StepPost
  have HO := Lib.hid hop
  have HT := Lib.hid hst
  have HA := Lib.hid hA
  have HS := Lib.hid hS
  clear hop hst hA hS
  obtain ⟨size, op, act, Z⟩ := D
  go_enter Try.func20, Try.ntmps20
  go_wp2_with fail
  refine Tree.start (fun W => DevAt W w.heap.size size op act a n cap) (.take 0 (.take 1 (.take 2 (.fork 3 (.fork 4 (.take 5 (.take 6 (.take 7 (.take 8 (.only 9 (.only 10 (.take 11 (.take 12 (.done))))))))) 9 (.only 4 (.take 5 (.take 6 (.take 7 (.take 8 (.only 10 (.take 11 (.take 12 (.done)))))))))) 9 (.only 3 (.only 4 (.take 5 (.take 6 (.take 7 (.take 8 (.only 10 (.take 11 (.take 12 (.done)))))))))))))) (by kernel_rfl) (by kernel_rfl) (by kernel_rfl) (by kernel_rfl) (row4 (heap_first2 w _ _)).2 ?_
  simp only [Tree.T.map, List.getElem?_toArray, List.getElem?_cons_zero, List.getElem?_cons_succ]
  have hx1 : (((w.alloc (devRow size op act a n cap)).alloc (devRow 0 0 0 none 0 0)).drew).heap[w.heap.size]? = some (devRow size op act a n cap) := heap_first2 w _ _
  have hr1 : (((w.alloc (devRow size op act a n cap)).alloc (devRow 0 0 0 none 0 0)).drew).heap[w.heap.size + 1]? = some (devRow 0 0 0 none 0 0) := heap_second w _ _
  have b1 := HA.out.drew
  generalize hW1 : ((w.alloc (devRow size op act a n cap)).alloc (devRow 0 0 0 none 0 0)).drew = w1 at hx1 hr1 b1 ⊢
  repeat (first | (refine Tree.take ?_ (by rfl) ?_ ?_; rotate_left; (· rintro w9 ⟨e0, e1, e2, e3⟩; go_simp; (try rw [if_neg (by omega)]); all_goals (with_reducible rfl)); simp only [Act.put, List.setIfInBounds_toArray, List.set_cons_zero, List.set_cons_succ]))
  refine Tree.fork (by rfl) (by rfl) ?_ ?_
  · refine Tree.wp_call 17 _ ?_ (HS.out w1) ?_
    · go_simp
    rintro e w2 ⟨rfl, hb2⟩
    have hx2 := row_on hb2 hx1 (lt_of_block hx1)
    have hr2 := row_on hb2 hr1 (lt_of_block hr1)
    have b2 := b1.trans (hb2.mono b1.size)
    have n2 := hb2.size
    refine ⟨_, rfl, (row4 hx2).2, ?_⟩
    simp only [Act.put, List.setIfInBounds_toArray, List.set_cons_zero, List.set_cons_succ]
    refine Tree.fork (by rfl) (by rfl) ?_ ?_
    · refine Tree.wp_call 23 _ ?_ (HO.out w2 b2) ?_
      · go_simp
      rintro e w4 ⟨a4, c4, rfl, hz4, hb4⟩
      have hx4 := row_on hb4 hx2 (lt_of_block hx2)
      have hr4 := row_on hb4 hr2 (lt_of_block hr2)
      have b4 := b2.trans (hb4.mono b2.size)
      have n4 := hb4.size
      refine ⟨_, rfl, (row4 hx4).2, ?_⟩
      simp only [Act.put, List.setIfInBounds_toArray, List.set_cons_zero, List.set_cons_succ]
      repeat (first | (refine Tree.take ?_ (by rfl) ?_ ?_; rotate_left; (· rintro w9 ⟨e0, e1, e2, e3⟩; go_simp; (try rw [if_neg (by omega)]); all_goals (with_reducible rfl)); simp only [Act.put, List.setIfInBounds_toArray, List.set_cons_zero, List.set_cons_succ]))
      refine Tree.only (by rfl) ?_
      have hv5 := heap_alloc_new w4 (devRow 0 0 0 none 0 0)
      have hx5 := row_al hx4 (devRow 0 0 0 none 0 0)
      have hr5 := row_al hr4 (devRow 0 0 0 none 0 0)
      have b5 := b4.alloc b4.size (devRow 0 0 0 none 0 0)
      refine Tree.wp_make (.pointer (some ⟨w4.heap.size, 0, none⟩)) (w4.alloc (devRow 0 0 0 none 0 0)) ?_ ?_
      · go_simp
      refine ⟨(row4 hx5).2, ?_⟩
      simp only [Act.put, List.setIfInBounds_toArray, List.set_cons_zero, List.set_cons_succ]
      have n0 := lt_of_block hr4
      have hv9 := setRow_heap _ _ _ #[.int .i64 rs, .int .i64 ro, .int .i64 ra, .slice a4 n c4] _ _ hv5
      have hx9 := (setRow_other _ (w4.heap.size) w.heap.size #[.int .i64 rs, .int .i64 ro, .int .i64 ra, .slice a4 n c4] (by omega)).trans hx5
      have hr9 := (setRow_other _ (w4.heap.size) (w.heap.size + 1) #[.int .i64 rs, .int .i64 ro, .int .i64 ra, .slice a4 n c4] (by omega)).trans hr5
      have b9 := below_setRow b5 (show w.heap.size ≤ w4.heap.size by omega) #[.int .i64 rs, .int .i64 ro, .int .i64 ra, .slice a4 n c4]
      refine Tree.only (by rfl) (wp_store_row 24 _ _ rfl (w4.heap.size) #[.int .i64 rs, .int .i64 ro, .int .i64 ra, .slice a4 n c4] (by rfl) (by rfl) 24 _ hv5 dev_info rfl (by simp [Value.oneCell']) ⟨(row4 hx9).2, ?_⟩)
      simp only [Act.put]
      repeat (first | (refine Tree.take ?_ (by rfl) ?_ ?_; rotate_left; (· rintro w9 ⟨e0, e1, e2, e3⟩; go_simp; (try rw [if_neg (by omega)]); all_goals (with_reducible rfl)); simp only [Act.put, List.setIfInBounds_toArray, List.set_cons_zero, List.set_cons_succ]))
      refine Tree.ends ?_
      have hz9 := ((hz4.cut.on (Agree.below ((Below.refl _ _).alloc (Nat.le_refl _) (devRow 0 0 0 none 0 0)))).on (Agree.row (r := w4.heap.size) (fun h => Nat.lt_irrefl _ h.2) #[.int .i64 rs, .int .i64 ro, .int .i64 ra, .slice a4 n c4])).mono (G := Plus F (w.heap.size + 2)) (fun b _ hb => hb.1.imp id (fun h => Nat.le_trans (lt_of_block hr2) h))
      generalize hW9 : (w4.alloc (devRow 0 0 0 none 0 0)).setRow (w4.heap.size) #[.int .i64 rs, .int .i64 ro, .int .i64 ra, .slice a4 n c4] = w9 at hv9 hx9 hr9 b9 hz9 ⊢
      obtain ⟨y9, d0, d1, d2, d3⟩ := row4 hx9
      obtain ⟨v9, l0, l1, l2, l3⟩ := row4 hv9
      clear hW9
      have HZ9 := Lib.hid hz9
      clear hz9
      go_wp2_with (first | ((with_reducible refine Plan.store_lit 24 (.tmp 6) _ (w.heap.size + 1) ?_ hr9 ?_ ?_ ?_ ?_ ?_ ?_); rotate_left; (· rfl); (· rfl); (· exact dev_info); (· rfl); (· simp [Value.oneCell']); simp only [Act.put]))
      refine bodyPost_ret (Plan.results_cell_tmp (p := 6) (q := 7) rfl _ _ _ _ _ _ _ rfl (setRow_heap _ _ _ _ _ _ hr9) Try.underlying24 rfl dev_info) rfl ⟨⟨rs, ro, ra, RZ⟩, _, a4, c4, rfl, (HZ9.out.on (Agree.row (r := w.heap.size + 1) (by rintro (h | h); (· have := hF _ h; omega); (· omega)) #[.int .i64 rs, .int .i64 ro, .int .i64 ra, .slice a4 n c4])).mono (fun b _ hb => hb.imp id (fun h => by omega)), HT.out, below_setRow b9 (by omega) _⟩
    · have hv3 := heap_alloc_new w2 (devRow 0 0 0 none 0 0)
      have hx3 := row_al hx2 (devRow 0 0 0 none 0 0)
      have hr3 := row_al hr2 (devRow 0 0 0 none 0 0)
      have b3 := b2.alloc b2.size (devRow 0 0 0 none 0 0)
      refine Tree.wp_make (.pointer (some ⟨w2.heap.size, 0, none⟩)) (w2.alloc (devRow 0 0 0 none 0 0)) ?_ ?_
      · go_simp
      refine ⟨(row4 hx3).2, ?_⟩
      simp only [Act.put, List.setIfInBounds_toArray, List.set_cons_zero, List.set_cons_succ]
      have n0 := lt_of_block hr2
      generalize hA3 : w2.alloc (devRow 0 0 0 none 0 0) = w3 at hv3 hx3 hr3 b3 ⊢
      have n3 : w3.heap.size = w2.heap.size + 1 := (by rw [← hA3]; exact World.size_alloc _ _)
      refine Tree.only (by rfl) ?_
      refine Tree.wp_call 23 _ ?_ (HO.out w3 b3) ?_
      · go_simp
      rintro e w4 ⟨a4, c4, rfl, hz4, hb4⟩
      have hx4 := row_on hb4 hx3 (lt_of_block hx3)
      have hr4 := row_on hb4 hr3 (lt_of_block hr3)
      have hv4 := row_on hb4 hv3 (lt_of_block hv3)
      have b4 := b3.trans (hb4.mono b3.size)
      have n4 := hb4.size
      refine ⟨_, rfl, (row4 hx4).2, ?_⟩
      simp only [Act.put, List.setIfInBounds_toArray, List.set_cons_zero, List.set_cons_succ]
      repeat (first | (refine Tree.take ?_ (by rfl) ?_ ?_; rotate_left; (· rintro w9 ⟨e0, e1, e2, e3⟩; go_simp; (try rw [if_neg (by omega)]); all_goals (with_reducible rfl)); simp only [Act.put, List.setIfInBounds_toArray, List.set_cons_zero, List.set_cons_succ]))
      have hv9 := setRow_heap _ _ _ #[.int .i64 rs, .int .i64 ro, .int .i64 ra, .slice a4 n c4] _ _ hv4
      have hx9 := (setRow_other _ (w2.heap.size) w.heap.size #[.int .i64 rs, .int .i64 ro, .int .i64 ra, .slice a4 n c4] (by omega)).trans hx4
      have hr9 := (setRow_other _ (w2.heap.size) (w.heap.size + 1) #[.int .i64 rs, .int .i64 ro, .int .i64 ra, .slice a4 n c4] (by omega)).trans hr4
      have b9 := below_setRow b4 (show w.heap.size ≤ w2.heap.size by omega) #[.int .i64 rs, .int .i64 ro, .int .i64 ra, .slice a4 n c4]
      refine Tree.only (by rfl) (wp_store_row 24 _ _ rfl (w2.heap.size) #[.int .i64 rs, .int .i64 ro, .int .i64 ra, .slice a4 n c4] (by rfl) (by rfl) 24 _ hv4 dev_info rfl (by simp [Value.oneCell']) ⟨(row4 hx9).2, ?_⟩)
      simp only [Act.put]
      repeat (first | (refine Tree.take ?_ (by rfl) ?_ ?_; rotate_left; (· rintro w9 ⟨e0, e1, e2, e3⟩; go_simp; (try rw [if_neg (by omega)]); all_goals (with_reducible rfl)); simp only [Act.put, List.setIfInBounds_toArray, List.set_cons_zero, List.set_cons_succ]))
      refine Tree.ends ?_
      have hz9 := (hz4.on (Agree.row (r := w2.heap.size) (by rintro (h | h); (· have := hF _ h; omega); (· omega)) #[.int .i64 rs, .int .i64 ro, .int .i64 ra, .slice a4 n c4])).mono (G := Plus F (w.heap.size + 2)) (fun b _ hb => hb.imp id (fun h => Nat.le_trans (lt_of_block hr3) h))
      generalize hW9 : (w4).setRow (w2.heap.size) #[.int .i64 rs, .int .i64 ro, .int .i64 ra, .slice a4 n c4] = w9 at hv9 hx9 hr9 b9 hz9 ⊢
      obtain ⟨y9, d0, d1, d2, d3⟩ := row4 hx9
      obtain ⟨v9, l0, l1, l2, l3⟩ := row4 hv9
      clear hW9
      have HZ9 := Lib.hid hz9
      clear hz9
      go_wp2_with (first | ((with_reducible refine Plan.store_lit 24 (.tmp 6) _ (w.heap.size + 1) ?_ hr9 ?_ ?_ ?_ ?_ ?_ ?_); rotate_left; (· rfl); (· rfl); (· exact dev_info); (· rfl); (· simp [Value.oneCell']); simp only [Act.put]))
      refine bodyPost_ret (Plan.results_cell_tmp (p := 6) (q := 7) rfl _ _ _ _ _ _ _ rfl (setRow_heap _ _ _ _ _ _ hr9) Try.underlying24 rfl dev_info) rfl ⟨⟨rs, ro, ra, RZ⟩, _, a4, c4, rfl, (HZ9.out.on (Agree.row (r := w.heap.size + 1) (by rintro (h | h); (· have := hF _ h; omega); (· omega)) #[.int .i64 rs, .int .i64 ro, .int .i64 ra, .slice a4 n c4])).mono (fun b _ hb => hb.imp id (fun h => by omega)), HT.out, below_setRow b9 (by omega) _⟩
  · have hv2 := heap_alloc_new w1 (devRow 0 0 0 none 0 0)
    have hx2 := row_al hx1 (devRow 0 0 0 none 0 0)
    have hr2 := row_al hr1 (devRow 0 0 0 none 0 0)
    have b2 := b1.alloc b1.size (devRow 0 0 0 none 0 0)
    refine Tree.wp_make (.pointer (some ⟨w1.heap.size, 0, none⟩)) (w1.alloc (devRow 0 0 0 none 0 0)) ?_ ?_
    · go_simp
    refine ⟨(row4 hx2).2, ?_⟩
    simp only [Act.put, List.setIfInBounds_toArray, List.set_cons_zero, List.set_cons_succ]
    have n0 := lt_of_block hr1
    generalize hA2 : w1.alloc (devRow 0 0 0 none 0 0) = w2 at hv2 hx2 hr2 b2 ⊢
    have n2 : w2.heap.size = w1.heap.size + 1 := (by rw [← hA2]; exact World.size_alloc _ _)
    refine Tree.only (by rfl) ?_
    refine Tree.wp_call 17 _ ?_ (HS.out w2) ?_
    · go_simp
    rintro e w3 ⟨rfl, hb3⟩
    have hx3 := row_on hb3 hx2 (lt_of_block hx2)
    have hr3 := row_on hb3 hr2 (lt_of_block hr2)
    have hv3 := row_on hb3 hv2 (lt_of_block hv2)
    have b3 := b2.trans (hb3.mono b2.size)
    have n3 := hb3.size
    refine ⟨_, rfl, (row4 hx3).2, ?_⟩
    simp only [Act.put, List.setIfInBounds_toArray, List.set_cons_zero, List.set_cons_succ]
    refine Tree.only (by rfl) ?_
    refine Tree.wp_call 23 _ ?_ (HO.out w3 b3) ?_
    · go_simp
    rintro e w4 ⟨a4, c4, rfl, hz4, hb4⟩
    have hx4 := row_on hb4 hx3 (lt_of_block hx3)
    have hr4 := row_on hb4 hr3 (lt_of_block hr3)
    have hv4 := row_on hb4 hv3 (lt_of_block hv3)
    have b4 := b3.trans (hb4.mono b3.size)
    have n4 := hb4.size
    refine ⟨_, rfl, (row4 hx4).2, ?_⟩
    simp only [Act.put, List.setIfInBounds_toArray, List.set_cons_zero, List.set_cons_succ]
    repeat (first | (refine Tree.take ?_ (by rfl) ?_ ?_; rotate_left; (· rintro w9 ⟨e0, e1, e2, e3⟩; go_simp; (try rw [if_neg (by omega)]); all_goals (with_reducible rfl)); simp only [Act.put, List.setIfInBounds_toArray, List.set_cons_zero, List.set_cons_succ]))
    have hv9 := setRow_heap _ _ _ #[.int .i64 rs, .int .i64 ro, .int .i64 ra, .slice a4 n c4] _ _ hv4
    have hx9 := (setRow_other _ (w1.heap.size) w.heap.size #[.int .i64 rs, .int .i64 ro, .int .i64 ra, .slice a4 n c4] (by omega)).trans hx4
    have hr9 := (setRow_other _ (w1.heap.size) (w.heap.size + 1) #[.int .i64 rs, .int .i64 ro, .int .i64 ra, .slice a4 n c4] (by omega)).trans hr4
    have b9 := below_setRow b4 (show w.heap.size ≤ w1.heap.size by omega) #[.int .i64 rs, .int .i64 ro, .int .i64 ra, .slice a4 n c4]
    refine Tree.only (by rfl) (wp_store_row 24 _ _ rfl (w1.heap.size) #[.int .i64 rs, .int .i64 ro, .int .i64 ra, .slice a4 n c4] (by rfl) (by rfl) 24 _ hv4 dev_info rfl (by simp [Value.oneCell']) ⟨(row4 hx9).2, ?_⟩)
    simp only [Act.put]
    repeat (first | (refine Tree.take ?_ (by rfl) ?_ ?_; rotate_left; (· rintro w9 ⟨e0, e1, e2, e3⟩; go_simp; (try rw [if_neg (by omega)]); all_goals (with_reducible rfl)); simp only [Act.put, List.setIfInBounds_toArray, List.set_cons_zero, List.set_cons_succ]))
    refine Tree.ends ?_
    have hz9 := (hz4.on (Agree.row (r := w1.heap.size) (by rintro (h | h); (· have := hF _ h; omega); (· omega)) #[.int .i64 rs, .int .i64 ro, .int .i64 ra, .slice a4 n c4])).mono (G := Plus F (w.heap.size + 2)) (fun b _ hb => hb.imp id (fun h => Nat.le_trans (lt_of_block hr3) h))
    generalize hW9 : (w4).setRow (w1.heap.size) #[.int .i64 rs, .int .i64 ro, .int .i64 ra, .slice a4 n c4] = w9 at hv9 hx9 hr9 b9 hz9 ⊢
    obtain ⟨y9, d0, d1, d2, d3⟩ := row4 hx9
    obtain ⟨v9, l0, l1, l2, l3⟩ := row4 hv9
    clear hW9
    have HZ9 := Lib.hid hz9
    clear hz9
    go_wp2_with (first | ((with_reducible refine Plan.store_lit 24 (.tmp 6) _ (w.heap.size + 1) ?_ hr9 ?_ ?_ ?_ ?_ ?_ ?_); rotate_left; (· rfl); (· rfl); (· exact dev_info); (· rfl); (· simp [Value.oneCell']); simp only [Act.put]))
    refine bodyPost_ret (Plan.results_cell_tmp (p := 6) (q := 7) rfl _ _ _ _ _ _ _ rfl (setRow_heap _ _ _ _ _ _ hr9) Try.underlying24 rfl dev_info) rfl ⟨⟨rs, ro, ra, RZ⟩, _, a4, c4, rfl, (HZ9.out.on (Agree.row (r := w.heap.size + 1) (by rintro (h | h); (· have := hF _ h; omega); (· omega)) #[.int .i64 rs, .int .i64 ro, .int .i64 ra, .slice a4 n c4])).mono (fun b _ hb => hb.imp id (fun h => by omega)), HT.out, below_setRow b9 (by omega) _⟩
set_option maxHeartbeats 2000000 in
set_option maxRecDepth 20000 in
theorem step_append_ok (F : Nat → Prop) (D : Dev) (a : Option Addr) (n cap i : Nat) (w : World) (hF : ∀ b, F b → b < w.heap.size) (hz : ZonesIn w F a n cap D.zones) (hm : n ≤ 1000000) (hc : checkE D = 0) (hi : i < n) (k : Int) (hk0 : (k == 0) = false) (hk1 : (k == 1) = false) (hk2 : (k == 2) = false) (hk3 : (k == 3) = false) (S : ByteArray) (hS : ∀ W, Calls Try.prog 17 #[.agg #[.int .i64 2, .int .i64 0, .int .i64 9, .int .i64 0, .string ⟨#[]⟩]] W fun e w' => e = .returned (.string S) ∧ Below W.heap.size W w') (hE : appendE D (i : Int) S = 0) :
    Calls Try.prog 20 #[devV D a n cap, .int .i64 (i : Int), .int .i64 k] w (StepPost w F D n i k) := by
  have hl := hz.is.length
  have hiI : (i : Int) < (n : Int) := by omega
  have hst := step_append S hc (z := i) (by omega) k
  have hop := fun W (h : Below w.heap.size w W) => append_any F D a n cap (i : Int) S W (fun b hb => Nat.lt_of_lt_of_le (hF b hb) h.size) (hz.on (Agree.below h)) hm
  have hA : Below w.heap.size w ((w.alloc (devRow D.size D.maxOpen D.maxActive a n cap)).alloc (devRow 0 0 0 none 0 0)) := ((Below.refl _ _).alloc (Nat.le_refl _) _).alloc (by simp) _
  obtain ⟨x, z, sa, sl, sc, rfl, hzk, hza, hzs⟩ := hz.zone i hi
  obtain ⟨ho, Y, hY, hYl⟩ := append_more hzk hE
  have hxb := zone_block hza
  have hsl := hzs.1.length
  have hslm : sl ≤ 1000000 := zone_small hc hzk hsl
  rw [hsl] at ho hYl
  rw [ho, hE] at hop
  rw [hE] at hst
  clear hE ho hsl hzk hzs
  generalize appendR D (i : Int) S = R at *
  obtain ⟨rs, ro, ra, RZ⟩ := R
  have HY := Lib.hid (And.intro hY hYl)
  have HZA := Lib.hid hza
  clear hza hY hYl
  unfold AppPost at hop
  unfold StepPost
  have HO := Lib.hid hop
  have HT := Lib.hid hst
  have HA := Lib.hid hA
  have HS := Lib.hid hS
  clear hop hst hA hS
  obtain ⟨size, op, act, Z⟩ := D
  go_enter Try.func20, Try.ntmps20
  go_wp2_with fail
  refine Tree.start (fun W => DevAt W w.heap.size size op act (some x) n cap) (.take 0 (.take 1 (.take 2 (.fork 3 (.fork 4 (.take 5 (.take 6 (.take 7 (.take 8 (.only 9 (.only 10 (.take 11 (.take 12 (.done))))))))) 9 (.only 4 (.take 5 (.take 6 (.take 7 (.take 8 (.only 10 (.take 11 (.take 12 (.done)))))))))) 9 (.only 3 (.only 4 (.take 5 (.take 6 (.take 7 (.take 8 (.only 10 (.take 11 (.take 12 (.done)))))))))))))) (by kernel_rfl) (by kernel_rfl) (by kernel_rfl) (by kernel_rfl) (row4 (heap_first2 w _ _)).2 ?_
  simp only [Tree.T.map, List.getElem?_toArray, List.getElem?_cons_zero, List.getElem?_cons_succ]
  have hx1 : (((w.alloc (devRow size op act (some x) n cap)).alloc (devRow 0 0 0 none 0 0)).drew).heap[w.heap.size]? = some (devRow size op act (some x) n cap) := heap_first2 w _ _
  have hr1 : (((w.alloc (devRow size op act (some x) n cap)).alloc (devRow 0 0 0 none 0 0)).drew).heap[w.heap.size + 1]? = some (devRow 0 0 0 none 0 0) := heap_second w _ _
  have b1 := HA.out.drew
  generalize hW1 : ((w.alloc (devRow size op act (some x) n cap)).alloc (devRow 0 0 0 none 0 0)).drew = w1 at hx1 hr1 b1 ⊢
  repeat (first | (refine Tree.take ?_ (by rfl) ?_ ?_; rotate_left; (· rintro w9 ⟨e0, e1, e2, e3⟩; go_simp; (try rw [if_neg (by omega)]); all_goals (with_reducible rfl)); simp only [Act.put, List.setIfInBounds_toArray, List.set_cons_zero, List.set_cons_succ]))
  refine Tree.fork (by rfl) (by rfl) ?_ ?_
  · refine Tree.wp_call 17 _ ?_ (HS.out w1) ?_
    · go_simp
    rintro e w2 ⟨rfl, hb2⟩
    have hx2 := row_on hb2 hx1 (lt_of_block hx1)
    have hr2 := row_on hb2 hr1 (lt_of_block hr1)
    have b2 := b1.trans (hb2.mono b1.size)
    have n2 := hb2.size
    refine ⟨_, rfl, (row4 hx2).2, ?_⟩
    simp only [Act.put, List.setIfInBounds_toArray, List.set_cons_zero, List.set_cons_succ]
    refine Tree.fork (by rfl) (by rfl) ?_ ?_
    · refine Tree.wp_call 23 _ ?_ (HO.out w2 b2) ?_
      · go_simp
      rintro e w4 ⟨a4, c4, rfl, hz4, hb4⟩
      have hx4 := row_on hb4 hx2 (lt_of_block hx2)
      have hr4 := row_on hb4 hr2 (lt_of_block hr2)
      have b4 := b2.trans (hb4.mono b2.size)
      have n4 := hb4.size
      refine ⟨_, rfl, (row4 hx4).2, ?_⟩
      simp only [Act.put, List.setIfInBounds_toArray, List.set_cons_zero, List.set_cons_succ]
      repeat (first | (refine Tree.take ?_ (by rfl) ?_ ?_; rotate_left; (· rintro w9 ⟨e0, e1, e2, e3⟩; go_simp; (try rw [if_neg (by omega)]); all_goals (with_reducible rfl)); simp only [Act.put, List.setIfInBounds_toArray, List.set_cons_zero, List.set_cons_succ]))
      refine Tree.only (by rfl) ?_
      have hv5 := heap_alloc_new w4 (devRow 0 0 0 none 0 0)
      have hx5 := row_al hx4 (devRow 0 0 0 none 0 0)
      have hr5 := row_al hr4 (devRow 0 0 0 none 0 0)
      have b5 := b4.alloc b4.size (devRow 0 0 0 none 0 0)
      refine Tree.wp_make (.pointer (some ⟨w4.heap.size, 0, none⟩)) (w4.alloc (devRow 0 0 0 none 0 0)) ?_ ?_
      · go_simp
      refine ⟨(row4 hx5).2, ?_⟩
      simp only [Act.put, List.setIfInBounds_toArray, List.set_cons_zero, List.set_cons_succ]
      have n0 := lt_of_block hr4
      have hv9 := setRow_heap _ _ _ #[.int .i64 rs, .int .i64 ro, .int .i64 ra, .slice a4 n c4] _ _ hv5
      have hx9 := (setRow_other _ (w4.heap.size) w.heap.size #[.int .i64 rs, .int .i64 ro, .int .i64 ra, .slice a4 n c4] (by omega)).trans hx5
      have hr9 := (setRow_other _ (w4.heap.size) (w.heap.size + 1) #[.int .i64 rs, .int .i64 ro, .int .i64 ra, .slice a4 n c4] (by omega)).trans hr5
      have b9 := below_setRow b5 (show w.heap.size ≤ w4.heap.size by omega) #[.int .i64 rs, .int .i64 ro, .int .i64 ra, .slice a4 n c4]
      refine Tree.only (by rfl) (wp_store_row 24 _ _ rfl (w4.heap.size) #[.int .i64 rs, .int .i64 ro, .int .i64 ra, .slice a4 n c4] (by rfl) (by rfl) 24 _ hv5 dev_info rfl (by simp [Value.oneCell']) ⟨(row4 hx9).2, ?_⟩)
      simp only [Act.put]
      repeat (first | (refine Tree.take ?_ (by rfl) ?_ ?_; rotate_left; (· rintro w9 ⟨e0, e1, e2, e3⟩; go_simp; (try rw [if_neg (by omega)]); all_goals (with_reducible rfl)); simp only [Act.put, List.setIfInBounds_toArray, List.set_cons_zero, List.set_cons_succ]))
      refine Tree.ends ?_
      have hz9 := ((hz4.cut.on (Agree.below ((Below.refl _ _).alloc (Nat.le_refl _) (devRow 0 0 0 none 0 0)))).on (Agree.row (r := w4.heap.size) (fun h => Nat.lt_irrefl _ h.2) #[.int .i64 rs, .int .i64 ro, .int .i64 ra, .slice a4 n c4])).mono (G := Plus F (w.heap.size + 2)) (fun b _ hb => hb.1.imp id (fun h => Nat.le_trans (lt_of_block hr2) h))
      generalize hW9 : (w4.alloc (devRow 0 0 0 none 0 0)).setRow (w4.heap.size) #[.int .i64 rs, .int .i64 ro, .int .i64 ra, .slice a4 n c4] = w9 at hv9 hx9 hr9 b9 hz9 ⊢
      clear hW9
      obtain ⟨x2, z2, sa2, sl2, sc2, rfl, hz2k, ⟨zd0, zd1, zd2⟩, hzs2⟩ := hz9.zone i hi
      obtain rfl : Y = z2 := Option.some.inj (HY.out.1.symm.trans hz2k)
      obtain ⟨zc0, zc1, zc2⟩ := HZA.out.on b9 hxb
      have hl2 : (sl2 : Int) = (sl : Int) + 1 := by have h1 := hzs2.1.length; have h2 := HY.out.2; omega
      have hw : IntKind.i64.wrap ((sl : Int) + 1) = (sl2 : Int) := by rw [IntKind.wrap_i64]; omega
      obtain ⟨y9, d0, d1, d2, d3⟩ := row4 hx9
      obtain ⟨v9, l0, l1, l2, l3⟩ := row4 hv9
      have HZ9 := Lib.hid hz9
      clear hz9 hl2 hz2k hzs2
      go_wp2_with (first | ((with_reducible refine Plan.store_lit 24 (.tmp 6) _ (w.heap.size + 1) ?_ hr9 ?_ ?_ ?_ ?_ ?_ ?_); rotate_left; (· rfl); (· rfl); (· exact dev_info); (· rfl); (· simp [Value.oneCell']); simp only [Act.put]))
      refine bodyPost_ret (Plan.results_cell_tmp (p := 6) (q := 7) rfl _ _ _ _ _ _ _ rfl (setRow_heap _ _ _ _ _ _ hr9) Try.underlying24 rfl dev_info) rfl ⟨⟨rs, ro, ra, RZ⟩, _, (some x2), c4, rfl, (HZ9.out.on (Agree.row (r := w.heap.size + 1) (by rintro (h | h); (· have := hF _ h; omega); (· omega)) #[.int .i64 rs, .int .i64 ro, .int .i64 ra, .slice (some x2) n c4])).mono (fun b _ hb => hb.imp id (fun h => by omega)), HT.out, below_setRow b9 (by omega) _⟩
    · have hv3 := heap_alloc_new w2 (devRow 0 0 0 none 0 0)
      have hx3 := row_al hx2 (devRow 0 0 0 none 0 0)
      have hr3 := row_al hr2 (devRow 0 0 0 none 0 0)
      have b3 := b2.alloc b2.size (devRow 0 0 0 none 0 0)
      refine Tree.wp_make (.pointer (some ⟨w2.heap.size, 0, none⟩)) (w2.alloc (devRow 0 0 0 none 0 0)) ?_ ?_
      · go_simp
      refine ⟨(row4 hx3).2, ?_⟩
      simp only [Act.put, List.setIfInBounds_toArray, List.set_cons_zero, List.set_cons_succ]
      have n0 := lt_of_block hr2
      generalize hA3 : w2.alloc (devRow 0 0 0 none 0 0) = w3 at hv3 hx3 hr3 b3 ⊢
      have n3 : w3.heap.size = w2.heap.size + 1 := (by rw [← hA3]; exact World.size_alloc _ _)
      refine Tree.only (by rfl) ?_
      refine Tree.wp_call 23 _ ?_ (HO.out w3 b3) ?_
      · go_simp
      rintro e w4 ⟨a4, c4, rfl, hz4, hb4⟩
      have hx4 := row_on hb4 hx3 (lt_of_block hx3)
      have hr4 := row_on hb4 hr3 (lt_of_block hr3)
      have hv4 := row_on hb4 hv3 (lt_of_block hv3)
      have b4 := b3.trans (hb4.mono b3.size)
      have n4 := hb4.size
      refine ⟨_, rfl, (row4 hx4).2, ?_⟩
      simp only [Act.put, List.setIfInBounds_toArray, List.set_cons_zero, List.set_cons_succ]
      repeat (first | (refine Tree.take ?_ (by rfl) ?_ ?_; rotate_left; (· rintro w9 ⟨e0, e1, e2, e3⟩; go_simp; (try rw [if_neg (by omega)]); all_goals (with_reducible rfl)); simp only [Act.put, List.setIfInBounds_toArray, List.set_cons_zero, List.set_cons_succ]))
      have hv9 := setRow_heap _ _ _ #[.int .i64 rs, .int .i64 ro, .int .i64 ra, .slice a4 n c4] _ _ hv4
      have hx9 := (setRow_other _ (w2.heap.size) w.heap.size #[.int .i64 rs, .int .i64 ro, .int .i64 ra, .slice a4 n c4] (by omega)).trans hx4
      have hr9 := (setRow_other _ (w2.heap.size) (w.heap.size + 1) #[.int .i64 rs, .int .i64 ro, .int .i64 ra, .slice a4 n c4] (by omega)).trans hr4
      have b9 := below_setRow b4 (show w.heap.size ≤ w2.heap.size by omega) #[.int .i64 rs, .int .i64 ro, .int .i64 ra, .slice a4 n c4]
      refine Tree.only (by rfl) (wp_store_row 24 _ _ rfl (w2.heap.size) #[.int .i64 rs, .int .i64 ro, .int .i64 ra, .slice a4 n c4] (by rfl) (by rfl) 24 _ hv4 dev_info rfl (by simp [Value.oneCell']) ⟨(row4 hx9).2, ?_⟩)
      simp only [Act.put]
      repeat (first | (refine Tree.take ?_ (by rfl) ?_ ?_; rotate_left; (· rintro w9 ⟨e0, e1, e2, e3⟩; go_simp; (try rw [if_neg (by omega)]); all_goals (with_reducible rfl)); simp only [Act.put, List.setIfInBounds_toArray, List.set_cons_zero, List.set_cons_succ]))
      refine Tree.ends ?_
      have hz9 := (hz4.on (Agree.row (r := w2.heap.size) (by rintro (h | h); (· have := hF _ h; omega); (· omega)) #[.int .i64 rs, .int .i64 ro, .int .i64 ra, .slice a4 n c4])).mono (G := Plus F (w.heap.size + 2)) (fun b _ hb => hb.imp id (fun h => Nat.le_trans (lt_of_block hr3) h))
      generalize hW9 : (w4).setRow (w2.heap.size) #[.int .i64 rs, .int .i64 ro, .int .i64 ra, .slice a4 n c4] = w9 at hv9 hx9 hr9 b9 hz9 ⊢
      clear hW9
      obtain ⟨x2, z2, sa2, sl2, sc2, rfl, hz2k, ⟨zd0, zd1, zd2⟩, hzs2⟩ := hz9.zone i hi
      obtain rfl : Y = z2 := Option.some.inj (HY.out.1.symm.trans hz2k)
      obtain ⟨zc0, zc1, zc2⟩ := HZA.out.on b9 hxb
      have hl2 : (sl2 : Int) = (sl : Int) + 1 := by have h1 := hzs2.1.length; have h2 := HY.out.2; omega
      have hw : IntKind.i64.wrap ((sl : Int) + 1) = (sl2 : Int) := by rw [IntKind.wrap_i64]; omega
      obtain ⟨y9, d0, d1, d2, d3⟩ := row4 hx9
      obtain ⟨v9, l0, l1, l2, l3⟩ := row4 hv9
      have HZ9 := Lib.hid hz9
      clear hz9 hl2 hz2k hzs2
      go_wp2_with (first | ((with_reducible refine Plan.store_lit 24 (.tmp 6) _ (w.heap.size + 1) ?_ hr9 ?_ ?_ ?_ ?_ ?_ ?_); rotate_left; (· rfl); (· rfl); (· exact dev_info); (· rfl); (· simp [Value.oneCell']); simp only [Act.put]))
      refine bodyPost_ret (Plan.results_cell_tmp (p := 6) (q := 7) rfl _ _ _ _ _ _ _ rfl (setRow_heap _ _ _ _ _ _ hr9) Try.underlying24 rfl dev_info) rfl ⟨⟨rs, ro, ra, RZ⟩, _, (some x2), c4, rfl, (HZ9.out.on (Agree.row (r := w.heap.size + 1) (by rintro (h | h); (· have := hF _ h; omega); (· omega)) #[.int .i64 rs, .int .i64 ro, .int .i64 ra, .slice (some x2) n c4])).mono (fun b _ hb => hb.imp id (fun h => by omega)), HT.out, below_setRow b9 (by omega) _⟩
  · have hv2 := heap_alloc_new w1 (devRow 0 0 0 none 0 0)
    have hx2 := row_al hx1 (devRow 0 0 0 none 0 0)
    have hr2 := row_al hr1 (devRow 0 0 0 none 0 0)
    have b2 := b1.alloc b1.size (devRow 0 0 0 none 0 0)
    refine Tree.wp_make (.pointer (some ⟨w1.heap.size, 0, none⟩)) (w1.alloc (devRow 0 0 0 none 0 0)) ?_ ?_
    · go_simp
    refine ⟨(row4 hx2).2, ?_⟩
    simp only [Act.put, List.setIfInBounds_toArray, List.set_cons_zero, List.set_cons_succ]
    have n0 := lt_of_block hr1
    generalize hA2 : w1.alloc (devRow 0 0 0 none 0 0) = w2 at hv2 hx2 hr2 b2 ⊢
    have n2 : w2.heap.size = w1.heap.size + 1 := (by rw [← hA2]; exact World.size_alloc _ _)
    refine Tree.only (by rfl) ?_
    refine Tree.wp_call 17 _ ?_ (HS.out w2) ?_
    · go_simp
    rintro e w3 ⟨rfl, hb3⟩
    have hx3 := row_on hb3 hx2 (lt_of_block hx2)
    have hr3 := row_on hb3 hr2 (lt_of_block hr2)
    have hv3 := row_on hb3 hv2 (lt_of_block hv2)
    have b3 := b2.trans (hb3.mono b2.size)
    have n3 := hb3.size
    refine ⟨_, rfl, (row4 hx3).2, ?_⟩
    simp only [Act.put, List.setIfInBounds_toArray, List.set_cons_zero, List.set_cons_succ]
    refine Tree.only (by rfl) ?_
    refine Tree.wp_call 23 _ ?_ (HO.out w3 b3) ?_
    · go_simp
    rintro e w4 ⟨a4, c4, rfl, hz4, hb4⟩
    have hx4 := row_on hb4 hx3 (lt_of_block hx3)
    have hr4 := row_on hb4 hr3 (lt_of_block hr3)
    have hv4 := row_on hb4 hv3 (lt_of_block hv3)
    have b4 := b3.trans (hb4.mono b3.size)
    have n4 := hb4.size
    refine ⟨_, rfl, (row4 hx4).2, ?_⟩
    simp only [Act.put, List.setIfInBounds_toArray, List.set_cons_zero, List.set_cons_succ]
    repeat (first | (refine Tree.take ?_ (by rfl) ?_ ?_; rotate_left; (· rintro w9 ⟨e0, e1, e2, e3⟩; go_simp; (try rw [if_neg (by omega)]); all_goals (with_reducible rfl)); simp only [Act.put, List.setIfInBounds_toArray, List.set_cons_zero, List.set_cons_succ]))
    have hv9 := setRow_heap _ _ _ #[.int .i64 rs, .int .i64 ro, .int .i64 ra, .slice a4 n c4] _ _ hv4
    have hx9 := (setRow_other _ (w1.heap.size) w.heap.size #[.int .i64 rs, .int .i64 ro, .int .i64 ra, .slice a4 n c4] (by omega)).trans hx4
    have hr9 := (setRow_other _ (w1.heap.size) (w.heap.size + 1) #[.int .i64 rs, .int .i64 ro, .int .i64 ra, .slice a4 n c4] (by omega)).trans hr4
    have b9 := below_setRow b4 (show w.heap.size ≤ w1.heap.size by omega) #[.int .i64 rs, .int .i64 ro, .int .i64 ra, .slice a4 n c4]
    refine Tree.only (by rfl) (wp_store_row 24 _ _ rfl (w1.heap.size) #[.int .i64 rs, .int .i64 ro, .int .i64 ra, .slice a4 n c4] (by rfl) (by rfl) 24 _ hv4 dev_info rfl (by simp [Value.oneCell']) ⟨(row4 hx9).2, ?_⟩)
    simp only [Act.put]
    repeat (first | (refine Tree.take ?_ (by rfl) ?_ ?_; rotate_left; (· rintro w9 ⟨e0, e1, e2, e3⟩; go_simp; (try rw [if_neg (by omega)]); all_goals (with_reducible rfl)); simp only [Act.put, List.setIfInBounds_toArray, List.set_cons_zero, List.set_cons_succ]))
    refine Tree.ends ?_
    have hz9 := (hz4.on (Agree.row (r := w1.heap.size) (by rintro (h | h); (· have := hF _ h; omega); (· omega)) #[.int .i64 rs, .int .i64 ro, .int .i64 ra, .slice a4 n c4])).mono (G := Plus F (w.heap.size + 2)) (fun b _ hb => hb.imp id (fun h => Nat.le_trans (lt_of_block hr3) h))
    generalize hW9 : (w4).setRow (w1.heap.size) #[.int .i64 rs, .int .i64 ro, .int .i64 ra, .slice a4 n c4] = w9 at hv9 hx9 hr9 b9 hz9 ⊢
    clear hW9
    obtain ⟨x2, z2, sa2, sl2, sc2, rfl, hz2k, ⟨zd0, zd1, zd2⟩, hzs2⟩ := hz9.zone i hi
    obtain rfl : Y = z2 := Option.some.inj (HY.out.1.symm.trans hz2k)
    obtain ⟨zc0, zc1, zc2⟩ := HZA.out.on b9 hxb
    have hl2 : (sl2 : Int) = (sl : Int) + 1 := by have h1 := hzs2.1.length; have h2 := HY.out.2; omega
    have hw : IntKind.i64.wrap ((sl : Int) + 1) = (sl2 : Int) := by rw [IntKind.wrap_i64]; omega
    obtain ⟨y9, d0, d1, d2, d3⟩ := row4 hx9
    obtain ⟨v9, l0, l1, l2, l3⟩ := row4 hv9
    have HZ9 := Lib.hid hz9
    clear hz9 hl2 hz2k hzs2
    go_wp2_with (first | ((with_reducible refine Plan.store_lit 24 (.tmp 6) _ (w.heap.size + 1) ?_ hr9 ?_ ?_ ?_ ?_ ?_ ?_); rotate_left; (· rfl); (· rfl); (· exact dev_info); (· rfl); (· simp [Value.oneCell']); simp only [Act.put]))
    refine bodyPost_ret (Plan.results_cell_tmp (p := 6) (q := 7) rfl _ _ _ _ _ _ _ rfl (setRow_heap _ _ _ _ _ _ hr9) Try.underlying24 rfl dev_info) rfl ⟨⟨rs, ro, ra, RZ⟩, _, (some x2), c4, rfl, (HZ9.out.on (Agree.row (r := w.heap.size + 1) (by rintro (h | h); (· have := hF _ h; omega); (· omega)) #[.int .i64 rs, .int .i64 ro, .int .i64 ra, .slice (some x2) n c4])).mono (fun b _ hb => hb.imp id (fun h => by omega)), HT.out, below_setRow b9 (by omega) _⟩
theorem law_sector : ∃ S : ByteArray, ∀ W, Calls Try.prog 17 #[.agg #[.int .i64 2, .int .i64 0, .int .i64 9, .int .i64 0, .string ⟨#[]⟩]] W fun e w' => e = .returned (.string S) ∧ Below W.heap.size W w' :=
  ⟨_, fun W => sector_made 2 0 9 0 ⟨#[]⟩ W⟩
theorem step_any (F : Nat → Prop) (D : Dev) (a : Option Addr) (n cap i : Nat) (w : World) (hF : ∀ b, F b → b < w.heap.size) (hz : ZonesIn w F a n cap D.zones) (hm : n ≤ 1000000) (hc : checkE D = 0) (hi : i < n) (k : Int) :
    Calls Try.prog 20 #[devV D a n cap, .int .i64 (i : Int), .int .i64 k] w (StepPost w F D n i k) := by
  by_cases h0 : k = 0
  · subst h0; exact step_reset_any F D a n cap i w hF hz hm hc hi
  by_cases h1 : k = 1
  · subst h1; exact step_finish_any F D a n cap i w hF hz hm hc hi
  by_cases h2 : k = 2
  · subst h2; exact step_open_any F D a n cap i w hF hz hm hc hi
  by_cases h3 : k = 3
  · subst h3; exact step_close_any F D a n cap i w hF hz hm hc hi
  obtain ⟨S, hS⟩ := law_sector
  by_cases hE : appendE D (i : Int) S = 0
  · exact step_append_ok F D a n cap i w hF hz hm hc hi k (by simp [h0]) (by simp [h1]) (by simp [h2]) (by simp [h3]) S hS hE
  · exact step_append_err F D a n cap i w hF hz hm hc hi k (by simp [h0]) (by simp [h1]) (by simp [h2]) (by simp [h3]) S hS hE
end Go.Proofs.Ytlmlmgegnnikeaa

/- The walk of the law ZnsNew. -/
namespace Go.Proofs.Ytlmlmgegnnikeaa
open Go.RowKit Plan ZnsMath

set_option maxHeartbeats 2000000 in
set_option maxRecDepth 20000 in
theorem znsNew_all (zones size op act : Int) (w : World) :
    Calls Try.prog 4 #[.int .i64 zones, .int .i64 size, .int .i64 op, .int .i64 act] w fun e w' => e = .returned (.bool true) ∧ Below w.heap.size w w' := by
  have h1 := fun W => new_any zones size op act W
  have h2 := fun W => refNew_any zones size op act W
  have h3 := fun a b cap cap2 W => refSame_any (newR zones size op act) a b (if newE zones size op act = 0 then zones.toNat else 0) cap cap2 W
  have h4 := fun W => awake_zns W
  unfold DevPost at h1 h2
  generalize newR zones size op act = R at *
  generalize newE zones size op act = E at *
  generalize (if E = 0 then zones.toNat else 0) = n at *
  obtain ⟨rs, ro, ra, RZ⟩ := R
  have H1 := Lib.hid h1
  have H2 := Lib.hid h2
  have H3 := Lib.hid h3
  have H4 := Lib.hid h4
  clear h1 h2 h3 h4
  go_enter Try.func4, Try.ntmps4
  go_wp2_with (first
    | (go_at_call 12; ((with_reducible refine (H1.out _).mono ?_); rintro e w1 ⟨a1, c1, rfl, hz1, b1⟩; have hv1 := heap_alloc_new w1 (devRow rs ro ra a1 n c1); have bb1 := b1.alloc b1.size (devRow rs ro ra a1 n c1); have hz1' := hz1.is.on ((Below.refl _ _).alloc (Nat.le_refl _) (devRow rs ro ra a1 n c1)) (Nat.le_refl _)))
    | (go_at_call 13; ((with_reducible refine (H2.out _).mono ?_); rintro e w2 ⟨a2, c2, rfl, hz2, hb2⟩; have hv2 := row_al (row_on hb2 hv1 (lt_of_block hv1)) (devRow rs ro ra a2 n c2); have hx2 := heap_alloc_new w2 (devRow rs ro ra a2 n c2); have b2 := bb1.trans (hb2.mono bb1.size); have bb2 := b2.alloc b2.size (devRow rs ro ra a2 n c2); have hz1'' := (hz1'.on hb2 (Nat.le_refl _)).on ((Below.refl _ _).alloc (Nat.le_refl _) (devRow rs ro ra a2 n c2)) (Nat.le_refl _); have hz2' := hz2.is.on ((Below.refl _ _).alloc (Nat.le_refl _) (devRow rs ro ra a2 n c2)) (Nat.le_refl _); obtain ⟨v2, l0, l1, l2, l3⟩ := row4 hv2; obtain ⟨x2, m0, m1, m2, m3⟩ := row4 hx2))
    | (go_at_call 14; ((with_reducible refine (H3.out a1 a2 c1 c2 _ hz1'' hz2').mono ?_); rintro e w3 ⟨rfl, hb3⟩; have b3 := bb2.trans (hb3.mono bb2.size)))
    | (go_at_call 10; ((with_reducible refine (H4.out _).mono ?_); rintro e w4 ⟨rfl, hb4⟩; have b4 := b3.trans (hb4.mono b3.size))))
  go_ret
  exact ⟨rfl, b4⟩
end Go.Proofs.Ytlmlmgegnnikeaa

/- The walk of the law that a zone takes as many sectors as it has room for, and no more. -/
namespace Go.Proofs.Ytlmlmgegnnikeaa
open Go.RowKit Plan ZnsMath

/-- four zones, of which one has sectors -/
structure Fill (N : Int) (z off : Nat) (Z : List Zone) (zn : Zone) : Prop where
  zones : Z = (List.replicate 4 empty).set z zn
  length : zn.sectors.length = off
  first : off = 0 → zn.state = 0
  mid : 0 < off → (off : Int) < N → zn.state = 1
  full : (off : Int) = N → zn.state = 4 ∧ zn.durable = N
  valid : checkE ⟨N, 1, 2, Z⟩ = 0
theorem fill_new {N : Int} (h1 : 3 ≤ N) (h2 : N ≤ 64) (z : Nat) (hz : z < 4) : newE 4 N 1 2 = 0 ∧ Fill N z 0 (List.replicate 4 empty) empty := by
  have hne : newE 4 N 1 2 = 0 := by
    rw [newE_eq, if_pos]
    unfold possibleB
    simp only [decide_eq_true_eq]
    omega
  refine ⟨hne, ?_, rfl, fun _ => rfl, fun h => by omega, fun h => by omega, ?_⟩
  · have hl : z < (List.replicate 4 empty).length := (by rw [List.length_replicate]; exact hz)
    have h := List.set_getElem_self hl
    rw [List.getElem_replicate] at h
    exact h.symm
  · have h := hne
    unfold newE newD at h
    rw [if_neg (by omega)] at h
    exact h
theorem fill_at {N : Int} {z off : Nat} {Z : List Zone} {zn : Zone} (h : Fill N z off Z zn) (hz : z < 4) : Z[z]? = some zn ∧ Z.length = 4 := by
  rw [h.zones]
  exact ⟨List.getElem?_set_self (by simpa using hz), by simp⟩
theorem fill_more {N : Int} {z off : Nat} {Z : List Zone} {zn : Zone} {s : ByteArray} (h : Fill N z off Z zn) (hz : z < 4) (ho : (off : Int) < N) (hs : s.size = 40) :
    appendE ⟨N, 1, 2, Z⟩ (z : Int) s = 0 ∧ appendO ⟨N, 1, 2, Z⟩ (z : Int) s = (off : Int) ∧ ∃ Y yn, appendR ⟨N, 1, 2, Z⟩ (z : Int) s = ⟨N, 1, 2, Y⟩ ∧ Fill N z (off + 1) Y yn := by
  obtain ⟨hat, hl⟩ := fill_at h hz
  have hst : stateAt ⟨N, 1, 2, Z⟩ (z : Int) = zn.state := stateAt_of hat
  have hzE : zoneE ⟨N, 1, 2, Z⟩ (z : Int) = 0 := by
    unfold zoneE
    rw [h.valid, if_neg (by decide), if_neg (by simp only [hl]; omega)]
  have h01 : zn.state = 0 ∨ zn.state = 1 := by
    by_cases h0 : off = 0
    · exact .inl (h.first h0)
    · exact .inr (h.mid (by omega) ho)
  have hrd : appendE ⟨N, 1, 2, Z⟩ (z : Int) s = 0 ∧ ready ⟨N, 1, 2, Z⟩ (z : Int) = ⟨N, 1, 2, Z⟩ := by
    rcases h01 with e | e
    · have hc0 : countO Z = 0 ∧ countA Z = 0 := by
        have hr := counts_empty 4
        have he : (List.replicate 4 empty)[z]? = some empty := by rw [List.getElem?_replicate, if_pos hz]
        have c1 := countO_set (List.replicate 4 empty) z empty zn he
        have c2 := countA_set (List.replicate 4 empty) z empty zn he
        rw [← h.zones] at c1 c2
        rw [e] at c1 c2
        rw [hr.1] at c1
        rw [hr.2] at c2
        simp [openB, activeB, empty] at c1 c2
        exact ⟨c1, c2⟩
      have hcl : cleared ⟨N, 1, 2, Z⟩ = ⟨N, 1, 2, Z⟩ := by
        unfold cleared
        rw [if_neg (by simp only [hc0.1]; decide)]
      have hrm : roomE ⟨N, 1, 2, Z⟩ z = 0 := by
        unfold roomE
        rw [hcl, if_neg (by simp only [hc0.1]; rintro ⟨h, -⟩; exact absurd h (by decide)), if_neg (by simp only [hc0.2]; rintro ⟨-, h⟩; exact absurd h (by decide))]
      refine ⟨?_, ?_⟩
      · unfold appendE
        rw [hzE, hst, e, if_neg (by decide), if_neg (by omega), if_neg (by decide), if_neg (by decide), if_neg (by decide), Int.toNat_natCast, hrm]
      · unfold ready roomR
        rw [hst, e, if_neg (by decide), Int.toNat_natCast, hrm, if_pos rfl, hcl]
    · refine ⟨?_, ?_⟩
      · unfold appendE
        rw [hzE, hst, e, if_neg (by decide), if_neg (by omega), if_neg (by decide), if_neg (by decide), if_pos (by decide)]
      · unfold ready
        rw [hst, e, if_pos (by decide)]
  obtain ⟨hE, hR⟩ := hrd
  have hR' : appendR ⟨N, 1, 2, Z⟩ (z : Int) s = ⟨N, 1, 2, (List.replicate 4 empty).set z (appended zn s N)⟩ := by
    unfold appendR
    rw [if_pos hE, hR, Int.toNat_natCast, getD_of hat]
    simp only [withZ]
    rw [h.zones, List.set_set]
  refine ⟨hE, ?_, _, _, hR', rfl, ?_, fun h => by omega, ?_, ?_, ?_⟩
  · unfold appendO
    rw [if_pos hE, hR, Int.toNat_natCast, getD_of hat, h.length]
  · rw [appended_sectors, List.length_append, h.length]
    rfl
  · intro _ h2
    unfold appended
    rw [h.length, if_neg (by omega)]
    rcases h01 with e | e <;> rw [e] <;> rfl
  · intro h2
    unfold appended
    rw [h.length, if_pos (by omega)]
    exact ⟨rfl, rfl⟩
  · rw [← hR']
    exact (append_kept (s := s) h.valid (by simp only [hl]; exact hz)).1.valid
theorem fill_end {N : Int} {z off : Nat} {Z : List Zone} {zn : Zone} {s : ByteArray} (h : Fill N z off Z zn) (hz : z < 4) (ho : (off : Int) = N) (hs : s.size = 40) : appendE ⟨N, 1, 2, Z⟩ (z : Int) s = 7 := by
  obtain ⟨hat, hl⟩ := fill_at h hz
  have hst : stateAt ⟨N, 1, 2, Z⟩ (z : Int) = zn.state := stateAt_of hat
  have hzE : zoneE ⟨N, 1, 2, Z⟩ (z : Int) = 0 := by
    unfold zoneE
    rw [h.valid, if_neg (by decide), if_neg (by simp only [hl]; omega)]
  unfold appendE
  rw [hzE, hst, (h.full ho).1, if_neg (by decide), if_neg (by omega), if_neg (by decide), if_pos rfl]
theorem fill_sector (v : Int) (h0 : 0 ≤ v) (h1 : v ≤ 1000) : ∃ S : ByteArray, S.size = 40 ∧ ∀ w, Calls Try.prog 17 #[.agg #[.int .i64 2, .int .i64 0, .int .i64 v, .int .i64 0, .string ⟨#[]⟩]] w fun e w' => e = .returned (.string S) ∧ Below w.heap.size w w' := by
  have hk : RecMath.checkE (mk 2 0 v 0 ⟨#[]⟩) = 0 := by
    have hs : (⟨#[]⟩ : ByteArray).size = 0 := rfl
    rw [check_eq, hs, if_neg (by omega), if_neg (by omega), if_neg (by omega)]
  have hd := RecMath.enc_length hk
  have hs := sector_made 2 0 v 0 ⟨#[]⟩
  generalize RecMath.encL (mk 2 0 v 0 ⟨#[]⟩) = x at hd hs
  exact ⟨⟨x.toArray⟩, by simpa [ByteArray.size] using hd, hs⟩
end Go.Proofs.Ytlmlmgegnnikeaa

/- The walk of the law that a zone takes as many sectors as it has room for, and no more. -/
namespace Go.Proofs.Ytlmlmgegnnikeaa
open Go.RowKit Plan ZnsMath

theorem fill_bool {N : Int} {z off : Nat} {Z : List Zone} {zn : Zone} (h : Fill N z (off + 1) Z zn) (hz : z < 4) : ∃ b, (zn.state == 4) = b ∧ ((off : Int) == N - 1) = b := by
  refine ⟨_, rfl, ?_⟩
  by_cases hf : ((off + 1 : Nat) : Int) = N
  · rw [(h.full hf).1, show (off : Int) = N - 1 by omega]
    simp
  · have hv := (check_parts h.valid).2.1
    unfold rightsB at hv
    rw [List.all_eq_true] at hv
    have hr := ((right_iff _ _).1 (hv zn (List.mem_of_getElem? (fill_at h hz).1))).1.2.2.1
    rw [h.length] at hr
    simp only at hr
    have h2 : zn.state = 1 := h.mid (by omega) (by omega)
    rw [h2, show ((off : Int) == N - 1) = false by simp; omega]
    rfl
set_option maxHeartbeats 2000000 in
set_option maxRecDepth 20000 in
theorem fills_all (u v : Int) (hu : (Lit.int .u8 u).wf = true) (hv : (Lit.int .u8 v).wf = true) (w : World) :
    Calls Try.prog 7 #[.int .u8 u, .int .u8 v] w fun e w' => e = .returned (.bool true) ∧ Below w.heap.size w w' := by
  have hu' : 0 ≤ u ∧ u < 256 := by
    have e1 : IntKind.u8.min = 0 := rfl
    have e2 : IntKind.u8.max = 255 := rfl
    simp only [Lit.wf, decide_eq_true_eq, Bool.and_eq_true] at hu
    omega
  have hv' : 0 ≤ v ∧ v < 256 := by
    have e1 : IntKind.u8.min = 0 := rfl
    have e2 : IntKind.u8.max = 255 := rfl
    simp only [Lit.wf, decide_eq_true_eq, Bool.and_eq_true] at hv
    omega
  obtain ⟨q, hq, hq2⟩ : ∃ q : Nat, u.tmod 62 = (q : Int) ∧ q < 62 := by
    have h1 := Int.tmod_lt_of_pos u (b := 62) (by omega)
    have h2 := Int.tmod_nonneg 62 hu'.1
    exact ⟨(u.tmod 62).toNat, by omega, by omega⟩
  obtain ⟨zi, hzi, hzi4⟩ : ∃ q : Nat, v.tmod 4 = (q : Int) ∧ q < 4 := by
    have h1 := Int.tmod_lt_of_pos v (b := 4) (by omega)
    have h2 := Int.tmod_nonneg 4 hv'.1
    exact ⟨(v.tmod 4).toNat, by omega, by omega⟩
  obtain ⟨N, hN⟩ : ∃ N : Nat, 3 + q = N := ⟨_, rfl⟩
  have hu1 : IntKind.i64.wrap u = u := by rw [IntKind.wrap_i64]; omega
  have hv1 : IntKind.i64.wrap v = v := by rw [IntKind.wrap_i64]; omega
  have hw1 : IntKind.i64.wrap (3 + (q : Int)) = (N : Int) := by rw [IntKind.wrap_i64]; omega
  have hN1 : IntKind.i64.wrap ((N : Int) - 1) = (N : Int) - 1 := by rw [IntKind.wrap_i64]; omega
  have hN3 : 3 ≤ N := by omega
  have hN64 : N ≤ 64 := by omega
  have hziI : (zi : Int) < 4 := by omega
  obtain ⟨hne, hfn⟩ := fill_new (N := (N : Int)) (by omega) (by omega) zi hzi4
  have hnew : ∀ W, Calls Try.prog 12 #[.int .i64 4, .int .i64 (N : Int), .int .i64 1, .int .i64 2] W fun e w' => ∃ a cap, e = .returned (.tuple #[.agg #[.int .i64 (N : Int), .int .i64 1, .int .i64 2, .slice a 4 cap], .int .i64 0]) ∧ ZonesIn w' (Plus (fun _ => False) W.heap.size) a 4 cap (List.replicate 4 empty) ∧ Below W.heap.size W w' := fun W => by
    have h := new_any 4 (N : Int) 1 2 W
    have hr : newR 4 (N : Int) 1 2 = ⟨(N : Int), 1, 2, List.replicate 4 empty⟩ := by
      unfold newR newD
      rw [if_pos hne]
      rfl
    rw [hr, hne, if_pos rfl] at h
    exact h
  have haw := awake_zns
  have HW := Lib.hid hnew
  have HFN := Lib.hid hfn
  have HAW := Lib.hid haw
  clear hnew hfn haw hu hv hne hN
  go_enter Try.func7, Try.ntmps7
  go_wp2_with (first
    | (go_at_call 12; ((with_reducible refine (HW.out _).mono ?_); rintro e w2 ⟨a, cap, rfl, hz2, hb2⟩; have hx2 := heap_alloc_new w2 (devRow (N : Int) 1 2 a 4 cap))))
  have hX : w.heap.size ≤ w2.heap.size := hb2.size
  have hz3 := hz2.cut.on (Agree.below ((Below.refl _ _).alloc (Nat.le_refl _) (devRow (N : Int) 1 2 a 4 cap)))
  have b3 := hb2.alloc hX (devRow (N : Int) 1 2 a 4 cap)
  clear hz2 hb2
  generalize w2.heap.size = X at *
  generalize w2.alloc (devRow (N : Int) 1 2 a 4 cap) = w3 at *
  go_loopw [9] (fun t wr => ∃ (off : Nat) (Z : List Zone) (zn : Zone) (a : Option Addr) (cap : Nat), t = .int .i64 off ∧ off ≤ N ∧ wr.heap[X]? = some (devRow (N : Int) 1 2 a 4 cap) ∧ ZonesIn wr (fun b => w.heap.size ≤ b ∧ b ≠ X) a 4 cap Z ∧ Fill (N : Int) zi off Z zn ∧ Below w.heap.size w wr) (fun t _ => N - (intOf t).toNat)
  case atStart =>
    refine ⟨0, _, _, a, cap, rfl, by omega, hx2, hz3.mono ?_, HFN.out, b3⟩
    rintro b hb ⟨h | h, h2⟩
    · exact h.elim
    · exact ⟨h, by omega⟩
  case round =>
    obtain ⟨off, Z, zn, a, cap, rfl, hoff, hx, hz, hf, hb⟩ := hrel
    clear hx2 hz3 b3
    have hm4 : (4 : Nat) ≤ 1000000 := by omega
    by_cases hlt : off < N
    · have hltI : (off : Int) < (N : Int) := by omega
      obtain ⟨V, hV⟩ : ∃ V : Int, 1 + (off : Int) = V := ⟨_, rfl⟩
      have hw9 : IntKind.i64.wrap (1 + (off : Int)) = V := by rw [IntKind.wrap_i64]; omega
      obtain ⟨S, hS40, hS⟩ := fill_sector V (by omega) (by omega)
      obtain ⟨hE, hO, Y', yn, hR, hf2⟩ := fill_more hf hzi4 hltI hS40
      have hop := fun (F : Nat → Prop) (a : Option Addr) (cap : Nat) W hF hz => append_any F ⟨(N : Int), 1, 2, Z⟩ a 4 cap (zi : Int) S W hF hz hm4
      rw [hE, hO, hR] at hop
      unfold AppPost at hop
      clear hV hE hO hR
      have HF2 := Lib.hid hf2
      have HS := Lib.hid hS
      clear hS hf2 hf hS40
      obtain ⟨H0, hH0⟩ : ∃ H0 : Nat, H0 = 0 := ⟨_, rfl⟩
      go_wp2_with fail
      refine Tree.start (fun W => DevAt W X (N : Int) 1 2 a 4 cap) (.take 0 (.take 1 (.take 2 (.take 3 (.take 4 (.fork 5 (.fork 6 (.take 7 (.take 8 (.take 9 (.take 10 (.only 11 (.only 12 (.take 13 (.take 14 (.done))))))))) 11 (.only 6 (.take 7 (.take 8 (.take 9 (.take 10 (.only 12 (.take 13 (.take 14 (.done)))))))))) 11 (.only 5 (.only 6 (.take 7 (.take 8 (.take 9 (.take 10 (.only 12 (.take 13 (.take 14 (.done)))))))))))))))) (by kernel_rfl) (by kernel_rfl) (by kernel_rfl) (by kernel_rfl) (row4 hx).2 ?_
      simp only [Tree.T.map, List.getElem?_toArray, List.getElem?_cons_zero, List.getElem?_cons_succ]
      have hx1 : wr.drew.heap[X]? = some (devRow (N : Int) 1 2 a 4 cap) := hx
      have s1 : wr.drew.heap.size = wr.heap.size := rfl
      have b1 := hb.drew
      obtain ⟨H, hH⟩ : ∃ H, H = wr.heap.size := ⟨_, rfl⟩
      have hz1 := (hz.on (Agree.below (Below.refl _ _).drew)).mono (G := (fun b => w.heap.size ≤ b ∧ b < H ∧ b ≠ X)) (fun b hb h => ⟨h.1, by omega, h.2⟩)
      rw [← hH] at s1
      have hXH : X < H := by have := lt_of_block hx; omega
      clear hx hz hb hH
      generalize wr.drew = w1 at hx1 b1 hz1 s1 ⊢
      repeat (first | (refine Tree.take ?_ (by rfl) ?_ ?_; rotate_left; (· rintro w9 ⟨e0, e1, e2, e3⟩; go_simp; (try rw [if_neg (by omega)]); all_goals (with_reducible rfl)); simp only [Act.put, List.setIfInBounds_toArray, List.set_cons_zero, List.set_cons_succ]))
      have hop1 := fun W hF hz => hop (fun b => w.heap.size ≤ b ∧ b < H ∧ b ≠ X) a cap W hF hz
      have HO := Lib.hid hop1
      clear hop hop1
      refine Tree.fork (by rfl) (by rfl) ?_ ?_
      · refine Tree.wp_call 17 _ ?_ (HS.out w1) ?_
        · go_simp
        rintro e w2 ⟨rfl, hb2⟩
        have hx2 := row_on hb2 hx1 (lt_of_block hx1)
        have hz2 := hz1.on (Agree.below hb2)
        have b2 := b1.trans (hb2.mono b1.size)
        have n2 := hb2.size
        refine ⟨_, rfl, (row4 hx2).2, ?_⟩
        simp only [Act.put, List.setIfInBounds_toArray, List.set_cons_zero, List.set_cons_succ]
        refine Tree.fork (by rfl) (by rfl) ?_ ?_
        · refine Tree.wp_call 23 _ ?_ (HO.out w2 (fun b hb => by have := hb.2.1; omega) hz2) ?_
          · go_simp
          rintro e w4 ⟨a4, c4, rfl, hn4, hb4⟩
          have hx4 := row_on hb4 hx2 (lt_of_block hx2)
          have hz4 := hz2.on (Agree.below hb4)
          have b4 := b2.trans (hb4.mono b2.size)
          have n4 := hb4.size
          refine ⟨_, rfl, (row4 hx4).2, ?_⟩
          simp only [Act.put, List.setIfInBounds_toArray, List.set_cons_zero, List.set_cons_succ]
          repeat (first | (refine Tree.take ?_ (by rfl) ?_ ?_; rotate_left; (· rintro w9 ⟨e0, e1, e2, e3⟩; go_simp; (try rw [if_neg (by omega)]); all_goals (with_reducible rfl)); simp only [Act.put, List.setIfInBounds_toArray, List.set_cons_zero, List.set_cons_succ]))
          refine Tree.only (by rfl) ?_
          have hv5 := heap_alloc_new w4 (devRow 0 0 0 none 0 0)
          have hx5 := row_al hx4 (devRow 0 0 0 none 0 0)
          have b5 := b4.alloc b4.size (devRow 0 0 0 none 0 0)
          have ag5 : Agree (fun b => w.heap.size ≤ b ∧ b < H ∧ b ≠ X) w4 (w4.alloc (devRow 0 0 0 none 0 0)) := Agree.below ((Below.refl _ _).alloc (Nat.le_refl _) (devRow 0 0 0 none 0 0))
          have hz5 := hz4.on (ag5)
          refine Tree.wp_make (.pointer (some ⟨w4.heap.size, 0, none⟩)) (w4.alloc (devRow 0 0 0 none 0 0)) ?_ ?_
          · go_simp
          refine ⟨(row4 hx5).2, ?_⟩
          simp only [Act.put, List.setIfInBounds_toArray, List.set_cons_zero, List.set_cons_succ]
          have hv9 := setRow_heap _ _ _ #[.int .i64 (N : Int), .int .i64 1, .int .i64 2, .slice a4 4 c4] _ _ hv5
          have hx9 := (setRow_other _ (w4.heap.size) X #[.int .i64 (N : Int), .int .i64 1, .int .i64 2, .slice a4 4 c4] (by omega)).trans hx5
          have b9 := below_setRow b5 (show w.heap.size ≤ w4.heap.size by omega) #[.int .i64 (N : Int), .int .i64 1, .int .i64 2, .slice a4 4 c4]
          have hz9 := hz5.on (Agree.row (r := w4.heap.size) (fun h => by have := h.2.1; omega) #[.int .i64 (N : Int), .int .i64 1, .int .i64 2, .slice a4 4 c4])
          have hn9 := ((hn4.cut.on (Agree.below ((Below.refl _ _).alloc (Nat.le_refl _) (devRow 0 0 0 none 0 0)))).on (Agree.row (r := w4.heap.size) (fun h => Nat.lt_irrefl _ h.2) #[.int .i64 (N : Int), .int .i64 1, .int .i64 2, .slice a4 4 c4])).mono (G := (fun b => w.heap.size ≤ b ∧ b ≠ X)) (fun b _ hb => by rcases hb.1 with h | h; (· exact ⟨h.1, h.2.2⟩); (· exact ⟨by omega, by omega⟩))
          refine Tree.only (by rfl) (wp_store_row 24 _ _ rfl (w4.heap.size) #[.int .i64 (N : Int), .int .i64 1, .int .i64 2, .slice a4 4 c4] (by rfl) (by rfl) 24 _ hv5 dev_info rfl (by simp [Value.oneCell']) ⟨(row4 hx9).2, ?_⟩)
          simp only [Act.put]
          repeat (first | (refine Tree.take ?_ (by rfl) ?_ ?_; rotate_left; (· rintro w9 ⟨e0, e1, e2, e3⟩; go_simp; (try rw [if_neg (by omega)]); all_goals (with_reducible rfl)); simp only [Act.put, List.setIfInBounds_toArray, List.set_cons_zero, List.set_cons_succ]))
          refine Tree.ends ?_
          generalize hW9 : (w4.alloc (devRow 0 0 0 none 0 0)).setRow (w4.heap.size) #[.int .i64 (N : Int), .int .i64 1, .int .i64 2, .slice a4 4 c4] = w9 at hv9 hx9 b9 hz9 hn9 ⊢
          clear hW9
          have hYX : X ≠ w4.heap.size := by omega
          generalize w4.heap.size = Y at hv9 hYX ⊢
          obtain ⟨x2, z2, sa2, sl2, sc2, rfl, hz2k, ⟨zd0, zd1, zd2⟩, hzs2⟩ := hn9.zone zi hzi4
          obtain rfl : yn = z2 := Option.some.inj ((fill_at HF2.out hzi4).1.symm.trans hz2k)
          have hsl2 := hzs2.1.length
          have hl2 : (sl2 : Int) = (off : Int) + 1 := by have := HF2.out.length; omega
          have hw2 : IntKind.i64.wrap ((off : Int) + 1) = (sl2 : Int) := by rw [IntKind.wrap_i64]; omega
          obtain ⟨bb, hb1, hb2⟩ := fill_bool HF2.out hzi4
          obtain ⟨y9, d0, d1, d2, d3⟩ := row4 hx9
          obtain ⟨v9, l0, l1, l2, l3⟩ := row4 hv9
          have HN9 := Lib.hid hn9
          have HL2 := Lib.hid hl2
          clear hn9 hz2k hzs2 hl2 hsl2 hz9
          go_wp2_with (first | ((with_reducible refine Plan.store_lit 24 (.tmp 6) _ (X) ?_ hx9 ?_ ?_ ?_ ?_ ?_ ?_); rotate_left; (· rfl); (· rfl); (· exact dev_info); (· rfl); (· simp [Value.oneCell']); simp only [Act.put]))
          have hx10 := setRow_heap _ _ _ #[.int .i64 (N : Int), .int .i64 1, .int .i64 2, .slice (some x2) 4 c4] _ _ hx9
          have hz10 := HN9.out.on (Agree.row (r := X) (fun h => h.2 rfl) #[.int .i64 (N : Int), .int .i64 1, .int .i64 2, .slice (some x2) 4 c4])
          have b10 := below_setRow b9 hX #[.int .i64 (N : Int), .int .i64 1, .int .i64 2, .slice (some x2) 4 c4]
          have hl2 := HL2.out
          go_roundw
          case rel => exact ⟨off + 1, Y', yn, some x2, c4, by go_num, by omega, hx10, hz10, HF2.out, b10⟩
          case measure => simp [intOf]; omega
        · have hv3 := heap_alloc_new w2 (devRow 0 0 0 none 0 0)
          have hx3 := row_al hx2 (devRow 0 0 0 none 0 0)
          have b3 := b2.alloc b2.size (devRow 0 0 0 none 0 0)
          have ag3 : Agree (fun b => w.heap.size ≤ b ∧ b < H ∧ b ≠ X) w2 (w2.alloc (devRow 0 0 0 none 0 0)) := Agree.below ((Below.refl _ _).alloc (Nat.le_refl _) (devRow 0 0 0 none 0 0))
          have hz3 := hz2.on (ag3)
          refine Tree.wp_make (.pointer (some ⟨w2.heap.size, 0, none⟩)) (w2.alloc (devRow 0 0 0 none 0 0)) ?_ ?_
          · go_simp
          refine ⟨(row4 hx3).2, ?_⟩
          simp only [Act.put, List.setIfInBounds_toArray, List.set_cons_zero, List.set_cons_succ]
          generalize hA3 : w2.alloc (devRow 0 0 0 none 0 0) = w3 at hv3 hx3 hz3 b3 ⊢
          have n3 : w3.heap.size = w2.heap.size + 1 := (by rw [← hA3]; exact World.size_alloc _ _)
          clear hA3 ag3
          refine Tree.only (by rfl) ?_
          refine Tree.wp_call 23 _ ?_ (HO.out w3 (fun b hb => by have := hb.2.1; omega) hz3) ?_
          · go_simp
          rintro e w4 ⟨a4, c4, rfl, hn4, hb4⟩
          have hx4 := row_on hb4 hx3 (lt_of_block hx3)
          have hz4 := hz3.on (Agree.below hb4)
          have hv4 := row_on hb4 hv3 (lt_of_block hv3)
          have b4 := b3.trans (hb4.mono b3.size)
          have n4 := hb4.size
          refine ⟨_, rfl, (row4 hx4).2, ?_⟩
          simp only [Act.put, List.setIfInBounds_toArray, List.set_cons_zero, List.set_cons_succ]
          repeat (first | (refine Tree.take ?_ (by rfl) ?_ ?_; rotate_left; (· rintro w9 ⟨e0, e1, e2, e3⟩; go_simp; (try rw [if_neg (by omega)]); all_goals (with_reducible rfl)); simp only [Act.put, List.setIfInBounds_toArray, List.set_cons_zero, List.set_cons_succ]))
          have hv9 := setRow_heap _ _ _ #[.int .i64 (N : Int), .int .i64 1, .int .i64 2, .slice a4 4 c4] _ _ hv4
          have hx9 := (setRow_other _ (w2.heap.size) X #[.int .i64 (N : Int), .int .i64 1, .int .i64 2, .slice a4 4 c4] (by omega)).trans hx4
          have b9 := below_setRow b4 (show w.heap.size ≤ w2.heap.size by omega) #[.int .i64 (N : Int), .int .i64 1, .int .i64 2, .slice a4 4 c4]
          have hz9 := hz4.on (Agree.row (r := w2.heap.size) (fun h => by have := h.2.1; omega) #[.int .i64 (N : Int), .int .i64 1, .int .i64 2, .slice a4 4 c4])
          have hn9 := (hn4.on (Agree.row (r := w2.heap.size) (by rintro (h | h); (· have := h.2.1; omega); (· omega)) #[.int .i64 (N : Int), .int .i64 1, .int .i64 2, .slice a4 4 c4])).mono (G := (fun b => w.heap.size ≤ b ∧ b ≠ X)) (fun b _ hb => by rcases hb with h | h; (· exact ⟨h.1, h.2.2⟩); (· exact ⟨by omega, by omega⟩))
          refine Tree.only (by rfl) (wp_store_row 24 _ _ rfl (w2.heap.size) #[.int .i64 (N : Int), .int .i64 1, .int .i64 2, .slice a4 4 c4] (by rfl) (by rfl) 24 _ hv4 dev_info rfl (by simp [Value.oneCell']) ⟨(row4 hx9).2, ?_⟩)
          simp only [Act.put]
          repeat (first | (refine Tree.take ?_ (by rfl) ?_ ?_; rotate_left; (· rintro w9 ⟨e0, e1, e2, e3⟩; go_simp; (try rw [if_neg (by omega)]); all_goals (with_reducible rfl)); simp only [Act.put, List.setIfInBounds_toArray, List.set_cons_zero, List.set_cons_succ]))
          refine Tree.ends ?_
          generalize hW9 : (w4).setRow (w2.heap.size) #[.int .i64 (N : Int), .int .i64 1, .int .i64 2, .slice a4 4 c4] = w9 at hv9 hx9 b9 hz9 hn9 ⊢
          clear hW9
          have hYX : X ≠ w2.heap.size := by omega
          generalize w2.heap.size = Y at hv9 hYX ⊢
          obtain ⟨x2, z2, sa2, sl2, sc2, rfl, hz2k, ⟨zd0, zd1, zd2⟩, hzs2⟩ := hn9.zone zi hzi4
          obtain rfl : yn = z2 := Option.some.inj ((fill_at HF2.out hzi4).1.symm.trans hz2k)
          have hsl2 := hzs2.1.length
          have hl2 : (sl2 : Int) = (off : Int) + 1 := by have := HF2.out.length; omega
          have hw2 : IntKind.i64.wrap ((off : Int) + 1) = (sl2 : Int) := by rw [IntKind.wrap_i64]; omega
          obtain ⟨bb, hb1, hb2⟩ := fill_bool HF2.out hzi4
          obtain ⟨y9, d0, d1, d2, d3⟩ := row4 hx9
          obtain ⟨v9, l0, l1, l2, l3⟩ := row4 hv9
          have HN9 := Lib.hid hn9
          have HL2 := Lib.hid hl2
          clear hn9 hz2k hzs2 hl2 hsl2 hz9
          go_wp2_with (first | ((with_reducible refine Plan.store_lit 24 (.tmp 6) _ (X) ?_ hx9 ?_ ?_ ?_ ?_ ?_ ?_); rotate_left; (· rfl); (· rfl); (· exact dev_info); (· rfl); (· simp [Value.oneCell']); simp only [Act.put]))
          have hx10 := setRow_heap _ _ _ #[.int .i64 (N : Int), .int .i64 1, .int .i64 2, .slice (some x2) 4 c4] _ _ hx9
          have hz10 := HN9.out.on (Agree.row (r := X) (fun h => h.2 rfl) #[.int .i64 (N : Int), .int .i64 1, .int .i64 2, .slice (some x2) 4 c4])
          have b10 := below_setRow b9 hX #[.int .i64 (N : Int), .int .i64 1, .int .i64 2, .slice (some x2) 4 c4]
          have hl2 := HL2.out
          go_roundw
          case rel => exact ⟨off + 1, Y', yn, some x2, c4, by go_num, by omega, hx10, hz10, HF2.out, b10⟩
          case measure => simp [intOf]; omega
      · have hv2 := heap_alloc_new w1 (devRow 0 0 0 none 0 0)
        have hx2 := row_al hx1 (devRow 0 0 0 none 0 0)
        have b2 := b1.alloc b1.size (devRow 0 0 0 none 0 0)
        have ag2 : Agree (fun b => w.heap.size ≤ b ∧ b < H ∧ b ≠ X) w1 (w1.alloc (devRow 0 0 0 none 0 0)) := Agree.below ((Below.refl _ _).alloc (Nat.le_refl _) (devRow 0 0 0 none 0 0))
        have hz2 := hz1.on (ag2)
        refine Tree.wp_make (.pointer (some ⟨w1.heap.size, 0, none⟩)) (w1.alloc (devRow 0 0 0 none 0 0)) ?_ ?_
        · go_simp
        refine ⟨(row4 hx2).2, ?_⟩
        simp only [Act.put, List.setIfInBounds_toArray, List.set_cons_zero, List.set_cons_succ]
        generalize hA2 : w1.alloc (devRow 0 0 0 none 0 0) = w2 at hv2 hx2 hz2 b2 ⊢
        have n2 : w2.heap.size = w1.heap.size + 1 := (by rw [← hA2]; exact World.size_alloc _ _)
        clear hA2 ag2
        refine Tree.only (by rfl) ?_
        refine Tree.wp_call 17 _ ?_ (HS.out w2) ?_
        · go_simp
        rintro e w3 ⟨rfl, hb3⟩
        have hx3 := row_on hb3 hx2 (lt_of_block hx2)
        have hz3 := hz2.on (Agree.below hb3)
        have hv3 := row_on hb3 hv2 (lt_of_block hv2)
        have b3 := b2.trans (hb3.mono b2.size)
        have n3 := hb3.size
        refine ⟨_, rfl, (row4 hx3).2, ?_⟩
        simp only [Act.put, List.setIfInBounds_toArray, List.set_cons_zero, List.set_cons_succ]
        refine Tree.only (by rfl) ?_
        refine Tree.wp_call 23 _ ?_ (HO.out w3 (fun b hb => by have := hb.2.1; omega) hz3) ?_
        · go_simp
        rintro e w4 ⟨a4, c4, rfl, hn4, hb4⟩
        have hx4 := row_on hb4 hx3 (lt_of_block hx3)
        have hz4 := hz3.on (Agree.below hb4)
        have hv4 := row_on hb4 hv3 (lt_of_block hv3)
        have b4 := b3.trans (hb4.mono b3.size)
        have n4 := hb4.size
        refine ⟨_, rfl, (row4 hx4).2, ?_⟩
        simp only [Act.put, List.setIfInBounds_toArray, List.set_cons_zero, List.set_cons_succ]
        repeat (first | (refine Tree.take ?_ (by rfl) ?_ ?_; rotate_left; (· rintro w9 ⟨e0, e1, e2, e3⟩; go_simp; (try rw [if_neg (by omega)]); all_goals (with_reducible rfl)); simp only [Act.put, List.setIfInBounds_toArray, List.set_cons_zero, List.set_cons_succ]))
        have hv9 := setRow_heap _ _ _ #[.int .i64 (N : Int), .int .i64 1, .int .i64 2, .slice a4 4 c4] _ _ hv4
        have hx9 := (setRow_other _ (w1.heap.size) X #[.int .i64 (N : Int), .int .i64 1, .int .i64 2, .slice a4 4 c4] (by omega)).trans hx4
        have b9 := below_setRow b4 (show w.heap.size ≤ w1.heap.size by omega) #[.int .i64 (N : Int), .int .i64 1, .int .i64 2, .slice a4 4 c4]
        have hz9 := hz4.on (Agree.row (r := w1.heap.size) (fun h => by have := h.2.1; omega) #[.int .i64 (N : Int), .int .i64 1, .int .i64 2, .slice a4 4 c4])
        have hn9 := (hn4.on (Agree.row (r := w1.heap.size) (by rintro (h | h); (· have := h.2.1; omega); (· omega)) #[.int .i64 (N : Int), .int .i64 1, .int .i64 2, .slice a4 4 c4])).mono (G := (fun b => w.heap.size ≤ b ∧ b ≠ X)) (fun b _ hb => by rcases hb with h | h; (· exact ⟨h.1, h.2.2⟩); (· exact ⟨by omega, by omega⟩))
        refine Tree.only (by rfl) (wp_store_row 24 _ _ rfl (w1.heap.size) #[.int .i64 (N : Int), .int .i64 1, .int .i64 2, .slice a4 4 c4] (by rfl) (by rfl) 24 _ hv4 dev_info rfl (by simp [Value.oneCell']) ⟨(row4 hx9).2, ?_⟩)
        simp only [Act.put]
        repeat (first | (refine Tree.take ?_ (by rfl) ?_ ?_; rotate_left; (· rintro w9 ⟨e0, e1, e2, e3⟩; go_simp; (try rw [if_neg (by omega)]); all_goals (with_reducible rfl)); simp only [Act.put, List.setIfInBounds_toArray, List.set_cons_zero, List.set_cons_succ]))
        refine Tree.ends ?_
        generalize hW9 : (w4).setRow (w1.heap.size) #[.int .i64 (N : Int), .int .i64 1, .int .i64 2, .slice a4 4 c4] = w9 at hv9 hx9 b9 hz9 hn9 ⊢
        clear hW9
        have hYX : X ≠ w1.heap.size := by omega
        generalize w1.heap.size = Y at hv9 hYX ⊢
        obtain ⟨x2, z2, sa2, sl2, sc2, rfl, hz2k, ⟨zd0, zd1, zd2⟩, hzs2⟩ := hn9.zone zi hzi4
        obtain rfl : yn = z2 := Option.some.inj ((fill_at HF2.out hzi4).1.symm.trans hz2k)
        have hsl2 := hzs2.1.length
        have hl2 : (sl2 : Int) = (off : Int) + 1 := by have := HF2.out.length; omega
        have hw2 : IntKind.i64.wrap ((off : Int) + 1) = (sl2 : Int) := by rw [IntKind.wrap_i64]; omega
        obtain ⟨bb, hb1, hb2⟩ := fill_bool HF2.out hzi4
        obtain ⟨y9, d0, d1, d2, d3⟩ := row4 hx9
        obtain ⟨v9, l0, l1, l2, l3⟩ := row4 hv9
        have HN9 := Lib.hid hn9
        have HL2 := Lib.hid hl2
        clear hn9 hz2k hzs2 hl2 hsl2 hz9
        go_wp2_with (first | ((with_reducible refine Plan.store_lit 24 (.tmp 6) _ (X) ?_ hx9 ?_ ?_ ?_ ?_ ?_ ?_); rotate_left; (· rfl); (· rfl); (· exact dev_info); (· rfl); (· simp [Value.oneCell']); simp only [Act.put]))
        have hx10 := setRow_heap _ _ _ #[.int .i64 (N : Int), .int .i64 1, .int .i64 2, .slice (some x2) 4 c4] _ _ hx9
        have hz10 := HN9.out.on (Agree.row (r := X) (fun h => h.2 rfl) #[.int .i64 (N : Int), .int .i64 1, .int .i64 2, .slice (some x2) 4 c4])
        have b10 := below_setRow b9 hX #[.int .i64 (N : Int), .int .i64 1, .int .i64 2, .slice (some x2) 4 c4]
        have hl2 := HL2.out
        go_roundw
        case rel => exact ⟨off + 1, Y', yn, some x2, c4, by go_num, by omega, hx10, hz10, HF2.out, b10⟩
        case measure => simp [intOf]; omega
    · obtain rfl : N = off := by omega
      obtain ⟨S, hS40, hS⟩ := fill_sector 0 (by decide) (by decide)
      have hE := fill_end hf hzi4 rfl hS40
      have hop := fun (F : Nat → Prop) (a : Option Addr) (cap : Nat) W hF hz => append_any F ⟨(N : Int), 1, 2, Z⟩ a 4 cap (zi : Int) S W hF hz hm4
      rw [hE] at hop
      unfold AppPost at hop
      generalize appendR ⟨(N : Int), 1, 2, Z⟩ (zi : Int) S = R at hop
      generalize appendO ⟨(N : Int), 1, 2, Z⟩ (zi : Int) S = O at hop
      obtain ⟨rs, ro, ra, RZ⟩ := R
      have HF := Lib.hid hf
      have HS := Lib.hid hS
      clear hS hf hS40 hE
      go_wp2_with fail
      refine Tree.start (fun W => DevAt W X (N : Int) 1 2 a 4 cap) (.take 0 (.take 1 (.take 2 (.fork 3 (.fork 4 (.take 5 (.take 6 (.take 7 (.take 8 (.only 9 (.only 10 (.take 11 (.take 12 (.done))))))))) 9 (.only 4 (.take 5 (.take 6 (.take 7 (.take 8 (.only 10 (.take 11 (.take 12 (.done)))))))))) 9 (.only 3 (.only 4 (.take 5 (.take 6 (.take 7 (.take 8 (.only 10 (.take 11 (.take 12 (.done)))))))))))))) (by kernel_rfl) (by kernel_rfl) (by kernel_rfl) (by kernel_rfl) (row4 hx).2 ?_
      simp only [Tree.T.map, List.getElem?_toArray, List.getElem?_cons_zero, List.getElem?_cons_succ]
      have hx1 : wr.drew.heap[X]? = some (devRow (N : Int) 1 2 a 4 cap) := hx
      have s1 : wr.drew.heap.size = wr.heap.size := rfl
      have b1 := hb.drew
      obtain ⟨H, hH⟩ : ∃ H, H = wr.heap.size := ⟨_, rfl⟩
      have hz1 := (hz.on (Agree.below (Below.refl _ _).drew)).mono (G := (fun b => w.heap.size ≤ b ∧ b < H ∧ b ≠ X)) (fun b hb h => ⟨h.1, by omega, h.2⟩)
      rw [← hH] at s1
      have hXH : X < H := by have := lt_of_block hx; omega
      clear hx hz hb hH
      generalize wr.drew = w1 at hx1 b1 hz1 s1 ⊢
      repeat (first | (refine Tree.take ?_ (by rfl) ?_ ?_; rotate_left; (· rintro w9 ⟨e0, e1, e2, e3⟩; go_simp; (try rw [if_neg (by omega)]); all_goals (with_reducible rfl)); simp only [Act.put, List.setIfInBounds_toArray, List.set_cons_zero, List.set_cons_succ]))
      have hop1 := fun W hF hz => hop (fun b => w.heap.size ≤ b ∧ b < H ∧ b ≠ X) a cap W hF hz
      have HO := Lib.hid hop1
      clear hop hop1
      refine Tree.fork (by rfl) (by rfl) ?_ ?_
      · refine Tree.wp_call 17 _ ?_ (HS.out w1) ?_
        · go_simp
        rintro e w2 ⟨rfl, hb2⟩
        have hx2 := row_on hb2 hx1 (lt_of_block hx1)
        have hz2 := hz1.on (Agree.below hb2)
        have b2 := b1.trans (hb2.mono b1.size)
        have n2 := hb2.size
        refine ⟨_, rfl, (row4 hx2).2, ?_⟩
        simp only [Act.put, List.setIfInBounds_toArray, List.set_cons_zero, List.set_cons_succ]
        refine Tree.fork (by rfl) (by rfl) ?_ ?_
        · refine Tree.wp_call 23 _ ?_ (HO.out w2 (fun b hb => by have := hb.2.1; omega) hz2) ?_
          · go_simp
          rintro e w4 ⟨a4, c4, rfl, hn4, hb4⟩
          have hx4 := row_on hb4 hx2 (lt_of_block hx2)
          have hz4 := hz2.on (Agree.below hb4)
          have b4 := b2.trans (hb4.mono b2.size)
          have n4 := hb4.size
          refine ⟨_, rfl, (row4 hx4).2, ?_⟩
          simp only [Act.put, List.setIfInBounds_toArray, List.set_cons_zero, List.set_cons_succ]
          repeat (first | (refine Tree.take ?_ (by rfl) ?_ ?_; rotate_left; (· rintro w9 ⟨e0, e1, e2, e3⟩; go_simp; (try rw [if_neg (by omega)]); all_goals (with_reducible rfl)); simp only [Act.put, List.setIfInBounds_toArray, List.set_cons_zero, List.set_cons_succ]))
          refine Tree.only (by rfl) ?_
          have hv5 := heap_alloc_new w4 (devRow 0 0 0 none 0 0)
          have hx5 := row_al hx4 (devRow 0 0 0 none 0 0)
          have b5 := b4.alloc b4.size (devRow 0 0 0 none 0 0)
          have ag5 : Agree (fun b => w.heap.size ≤ b ∧ b < H ∧ b ≠ X) w4 (w4.alloc (devRow 0 0 0 none 0 0)) := Agree.below ((Below.refl _ _).alloc (Nat.le_refl _) (devRow 0 0 0 none 0 0))
          have hz5 := hz4.on (ag5)
          refine Tree.wp_make (.pointer (some ⟨w4.heap.size, 0, none⟩)) (w4.alloc (devRow 0 0 0 none 0 0)) ?_ ?_
          · go_simp
          refine ⟨(row4 hx5).2, ?_⟩
          simp only [Act.put, List.setIfInBounds_toArray, List.set_cons_zero, List.set_cons_succ]
          have hv9 := setRow_heap _ _ _ #[.int .i64 rs, .int .i64 ro, .int .i64 ra, .slice a4 4 c4] _ _ hv5
          have hx9 := (setRow_other _ (w4.heap.size) X #[.int .i64 rs, .int .i64 ro, .int .i64 ra, .slice a4 4 c4] (by omega)).trans hx5
          have b9 := below_setRow b5 (show w.heap.size ≤ w4.heap.size by omega) #[.int .i64 rs, .int .i64 ro, .int .i64 ra, .slice a4 4 c4]
          have hz9 := hz5.on (Agree.row (r := w4.heap.size) (fun h => by have := h.2.1; omega) #[.int .i64 rs, .int .i64 ro, .int .i64 ra, .slice a4 4 c4])
          have hn9 := ((hn4.cut.on (Agree.below ((Below.refl _ _).alloc (Nat.le_refl _) (devRow 0 0 0 none 0 0)))).on (Agree.row (r := w4.heap.size) (fun h => Nat.lt_irrefl _ h.2) #[.int .i64 rs, .int .i64 ro, .int .i64 ra, .slice a4 4 c4])).mono (G := (fun b => w.heap.size ≤ b ∧ b ≠ X)) (fun b _ hb => by rcases hb.1 with h | h; (· exact ⟨h.1, h.2.2⟩); (· exact ⟨by omega, by omega⟩))
          refine Tree.only (by rfl) (wp_store_row 24 _ _ rfl (w4.heap.size) #[.int .i64 rs, .int .i64 ro, .int .i64 ra, .slice a4 4 c4] (by rfl) (by rfl) 24 _ hv5 dev_info rfl (by simp [Value.oneCell']) ⟨(row4 hx9).2, ?_⟩)
          simp only [Act.put]
          repeat (first | (refine Tree.take ?_ (by rfl) ?_ ?_; rotate_left; (· rintro w9 ⟨e0, e1, e2, e3⟩; go_simp; (try rw [if_neg (by omega)]); all_goals (with_reducible rfl)); simp only [Act.put, List.setIfInBounds_toArray, List.set_cons_zero, List.set_cons_succ]))
          refine Tree.ends ?_
          generalize hW9 : (w4.alloc (devRow 0 0 0 none 0 0)).setRow (w4.heap.size) #[.int .i64 rs, .int .i64 ro, .int .i64 ra, .slice a4 4 c4] = w9 at hv9 hx9 b9 hz9 hn9 ⊢
          clear hW9
          have hYX : X ≠ w4.heap.size := by omega
          generalize w4.heap.size = Y at hv9 hYX ⊢
          obtain ⟨x2, z2, sa2, sl2, sc2, rfl, hz2k, hza, hzs2⟩ := hz9.zone zi hzi4
          obtain rfl : zn = z2 := Option.some.inj ((fill_at HF.out hzi4).1.symm.trans hz2k)
          have hdu : zn.durable = (N : Int) := (HF.out.full rfl).2
          obtain ⟨zd0, zd1, zd2⟩ := hza
          rw [hdu] at zd1
          obtain ⟨y9, d0, d1, d2, d3⟩ := row4 hx9
          have HN9 := Lib.hid hn9
          clear hn9 hz2k hzs2 hz9 hdu
          go_wp2_with (first
            | (go_at_call 10; ((with_reducible refine (HAW.out _).mono ?_); rintro e w10 ⟨rfl, hb10⟩)))
          go_ret
          exact ⟨rfl, b9.trans (hb10.mono b9.size)⟩
        · have hv3 := heap_alloc_new w2 (devRow 0 0 0 none 0 0)
          have hx3 := row_al hx2 (devRow 0 0 0 none 0 0)
          have b3 := b2.alloc b2.size (devRow 0 0 0 none 0 0)
          have ag3 : Agree (fun b => w.heap.size ≤ b ∧ b < H ∧ b ≠ X) w2 (w2.alloc (devRow 0 0 0 none 0 0)) := Agree.below ((Below.refl _ _).alloc (Nat.le_refl _) (devRow 0 0 0 none 0 0))
          have hz3 := hz2.on (ag3)
          refine Tree.wp_make (.pointer (some ⟨w2.heap.size, 0, none⟩)) (w2.alloc (devRow 0 0 0 none 0 0)) ?_ ?_
          · go_simp
          refine ⟨(row4 hx3).2, ?_⟩
          simp only [Act.put, List.setIfInBounds_toArray, List.set_cons_zero, List.set_cons_succ]
          generalize hA3 : w2.alloc (devRow 0 0 0 none 0 0) = w3 at hv3 hx3 hz3 b3 ⊢
          have n3 : w3.heap.size = w2.heap.size + 1 := (by rw [← hA3]; exact World.size_alloc _ _)
          clear hA3 ag3
          refine Tree.only (by rfl) ?_
          refine Tree.wp_call 23 _ ?_ (HO.out w3 (fun b hb => by have := hb.2.1; omega) hz3) ?_
          · go_simp
          rintro e w4 ⟨a4, c4, rfl, hn4, hb4⟩
          have hx4 := row_on hb4 hx3 (lt_of_block hx3)
          have hz4 := hz3.on (Agree.below hb4)
          have hv4 := row_on hb4 hv3 (lt_of_block hv3)
          have b4 := b3.trans (hb4.mono b3.size)
          have n4 := hb4.size
          refine ⟨_, rfl, (row4 hx4).2, ?_⟩
          simp only [Act.put, List.setIfInBounds_toArray, List.set_cons_zero, List.set_cons_succ]
          repeat (first | (refine Tree.take ?_ (by rfl) ?_ ?_; rotate_left; (· rintro w9 ⟨e0, e1, e2, e3⟩; go_simp; (try rw [if_neg (by omega)]); all_goals (with_reducible rfl)); simp only [Act.put, List.setIfInBounds_toArray, List.set_cons_zero, List.set_cons_succ]))
          have hv9 := setRow_heap _ _ _ #[.int .i64 rs, .int .i64 ro, .int .i64 ra, .slice a4 4 c4] _ _ hv4
          have hx9 := (setRow_other _ (w2.heap.size) X #[.int .i64 rs, .int .i64 ro, .int .i64 ra, .slice a4 4 c4] (by omega)).trans hx4
          have b9 := below_setRow b4 (show w.heap.size ≤ w2.heap.size by omega) #[.int .i64 rs, .int .i64 ro, .int .i64 ra, .slice a4 4 c4]
          have hz9 := hz4.on (Agree.row (r := w2.heap.size) (fun h => by have := h.2.1; omega) #[.int .i64 rs, .int .i64 ro, .int .i64 ra, .slice a4 4 c4])
          have hn9 := (hn4.on (Agree.row (r := w2.heap.size) (by rintro (h | h); (· have := h.2.1; omega); (· omega)) #[.int .i64 rs, .int .i64 ro, .int .i64 ra, .slice a4 4 c4])).mono (G := (fun b => w.heap.size ≤ b ∧ b ≠ X)) (fun b _ hb => by rcases hb with h | h; (· exact ⟨h.1, h.2.2⟩); (· exact ⟨by omega, by omega⟩))
          refine Tree.only (by rfl) (wp_store_row 24 _ _ rfl (w2.heap.size) #[.int .i64 rs, .int .i64 ro, .int .i64 ra, .slice a4 4 c4] (by rfl) (by rfl) 24 _ hv4 dev_info rfl (by simp [Value.oneCell']) ⟨(row4 hx9).2, ?_⟩)
          simp only [Act.put]
          repeat (first | (refine Tree.take ?_ (by rfl) ?_ ?_; rotate_left; (· rintro w9 ⟨e0, e1, e2, e3⟩; go_simp; (try rw [if_neg (by omega)]); all_goals (with_reducible rfl)); simp only [Act.put, List.setIfInBounds_toArray, List.set_cons_zero, List.set_cons_succ]))
          refine Tree.ends ?_
          generalize hW9 : (w4).setRow (w2.heap.size) #[.int .i64 rs, .int .i64 ro, .int .i64 ra, .slice a4 4 c4] = w9 at hv9 hx9 b9 hz9 hn9 ⊢
          clear hW9
          have hYX : X ≠ w2.heap.size := by omega
          generalize w2.heap.size = Y at hv9 hYX ⊢
          obtain ⟨x2, z2, sa2, sl2, sc2, rfl, hz2k, hza, hzs2⟩ := hz9.zone zi hzi4
          obtain rfl : zn = z2 := Option.some.inj ((fill_at HF.out hzi4).1.symm.trans hz2k)
          have hdu : zn.durable = (N : Int) := (HF.out.full rfl).2
          obtain ⟨zd0, zd1, zd2⟩ := hza
          rw [hdu] at zd1
          obtain ⟨y9, d0, d1, d2, d3⟩ := row4 hx9
          have HN9 := Lib.hid hn9
          clear hn9 hz2k hzs2 hz9 hdu
          go_wp2_with (first
            | (go_at_call 10; ((with_reducible refine (HAW.out _).mono ?_); rintro e w10 ⟨rfl, hb10⟩)))
          go_ret
          exact ⟨rfl, b9.trans (hb10.mono b9.size)⟩
      · have hv2 := heap_alloc_new w1 (devRow 0 0 0 none 0 0)
        have hx2 := row_al hx1 (devRow 0 0 0 none 0 0)
        have b2 := b1.alloc b1.size (devRow 0 0 0 none 0 0)
        have ag2 : Agree (fun b => w.heap.size ≤ b ∧ b < H ∧ b ≠ X) w1 (w1.alloc (devRow 0 0 0 none 0 0)) := Agree.below ((Below.refl _ _).alloc (Nat.le_refl _) (devRow 0 0 0 none 0 0))
        have hz2 := hz1.on (ag2)
        refine Tree.wp_make (.pointer (some ⟨w1.heap.size, 0, none⟩)) (w1.alloc (devRow 0 0 0 none 0 0)) ?_ ?_
        · go_simp
        refine ⟨(row4 hx2).2, ?_⟩
        simp only [Act.put, List.setIfInBounds_toArray, List.set_cons_zero, List.set_cons_succ]
        generalize hA2 : w1.alloc (devRow 0 0 0 none 0 0) = w2 at hv2 hx2 hz2 b2 ⊢
        have n2 : w2.heap.size = w1.heap.size + 1 := (by rw [← hA2]; exact World.size_alloc _ _)
        clear hA2 ag2
        refine Tree.only (by rfl) ?_
        refine Tree.wp_call 17 _ ?_ (HS.out w2) ?_
        · go_simp
        rintro e w3 ⟨rfl, hb3⟩
        have hx3 := row_on hb3 hx2 (lt_of_block hx2)
        have hz3 := hz2.on (Agree.below hb3)
        have hv3 := row_on hb3 hv2 (lt_of_block hv2)
        have b3 := b2.trans (hb3.mono b2.size)
        have n3 := hb3.size
        refine ⟨_, rfl, (row4 hx3).2, ?_⟩
        simp only [Act.put, List.setIfInBounds_toArray, List.set_cons_zero, List.set_cons_succ]
        refine Tree.only (by rfl) ?_
        refine Tree.wp_call 23 _ ?_ (HO.out w3 (fun b hb => by have := hb.2.1; omega) hz3) ?_
        · go_simp
        rintro e w4 ⟨a4, c4, rfl, hn4, hb4⟩
        have hx4 := row_on hb4 hx3 (lt_of_block hx3)
        have hz4 := hz3.on (Agree.below hb4)
        have hv4 := row_on hb4 hv3 (lt_of_block hv3)
        have b4 := b3.trans (hb4.mono b3.size)
        have n4 := hb4.size
        refine ⟨_, rfl, (row4 hx4).2, ?_⟩
        simp only [Act.put, List.setIfInBounds_toArray, List.set_cons_zero, List.set_cons_succ]
        repeat (first | (refine Tree.take ?_ (by rfl) ?_ ?_; rotate_left; (· rintro w9 ⟨e0, e1, e2, e3⟩; go_simp; (try rw [if_neg (by omega)]); all_goals (with_reducible rfl)); simp only [Act.put, List.setIfInBounds_toArray, List.set_cons_zero, List.set_cons_succ]))
        have hv9 := setRow_heap _ _ _ #[.int .i64 rs, .int .i64 ro, .int .i64 ra, .slice a4 4 c4] _ _ hv4
        have hx9 := (setRow_other _ (w1.heap.size) X #[.int .i64 rs, .int .i64 ro, .int .i64 ra, .slice a4 4 c4] (by omega)).trans hx4
        have b9 := below_setRow b4 (show w.heap.size ≤ w1.heap.size by omega) #[.int .i64 rs, .int .i64 ro, .int .i64 ra, .slice a4 4 c4]
        have hz9 := hz4.on (Agree.row (r := w1.heap.size) (fun h => by have := h.2.1; omega) #[.int .i64 rs, .int .i64 ro, .int .i64 ra, .slice a4 4 c4])
        have hn9 := (hn4.on (Agree.row (r := w1.heap.size) (by rintro (h | h); (· have := h.2.1; omega); (· omega)) #[.int .i64 rs, .int .i64 ro, .int .i64 ra, .slice a4 4 c4])).mono (G := (fun b => w.heap.size ≤ b ∧ b ≠ X)) (fun b _ hb => by rcases hb with h | h; (· exact ⟨h.1, h.2.2⟩); (· exact ⟨by omega, by omega⟩))
        refine Tree.only (by rfl) (wp_store_row 24 _ _ rfl (w1.heap.size) #[.int .i64 rs, .int .i64 ro, .int .i64 ra, .slice a4 4 c4] (by rfl) (by rfl) 24 _ hv4 dev_info rfl (by simp [Value.oneCell']) ⟨(row4 hx9).2, ?_⟩)
        simp only [Act.put]
        repeat (first | (refine Tree.take ?_ (by rfl) ?_ ?_; rotate_left; (· rintro w9 ⟨e0, e1, e2, e3⟩; go_simp; (try rw [if_neg (by omega)]); all_goals (with_reducible rfl)); simp only [Act.put, List.setIfInBounds_toArray, List.set_cons_zero, List.set_cons_succ]))
        refine Tree.ends ?_
        generalize hW9 : (w4).setRow (w1.heap.size) #[.int .i64 rs, .int .i64 ro, .int .i64 ra, .slice a4 4 c4] = w9 at hv9 hx9 b9 hz9 hn9 ⊢
        clear hW9
        have hYX : X ≠ w1.heap.size := by omega
        generalize w1.heap.size = Y at hv9 hYX ⊢
        obtain ⟨x2, z2, sa2, sl2, sc2, rfl, hz2k, hza, hzs2⟩ := hz9.zone zi hzi4
        obtain rfl : zn = z2 := Option.some.inj ((fill_at HF.out hzi4).1.symm.trans hz2k)
        have hdu : zn.durable = (N : Int) := (HF.out.full rfl).2
        obtain ⟨zd0, zd1, zd2⟩ := hza
        rw [hdu] at zd1
        obtain ⟨y9, d0, d1, d2, d3⟩ := row4 hx9
        have HN9 := Lib.hid hn9
        clear hn9 hz2k hzs2 hz9 hdu
        go_wp2_with (first
          | (go_at_call 10; ((with_reducible refine (HAW.out _).mono ?_); rintro e w10 ⟨rfl, hb10⟩)))
        go_ret
        exact ⟨rfl, b9.trans (hb10.mono b9.size)⟩
end Go.Proofs.Ytlmlmgegnnikeaa

/- ZnsFills: a zone takes as many sectors as it has room for, each at the next offset, then is full; no more. No condition. -/
namespace Go.Proofs.Ytlmlmgegnnikeaa.znsFills
open Go.ChangeShapes Go.WideShapes Go.ChangeAt Go.RowKit
open Go.ChangeMaps (open_string shut_string)
set_option linter.unusedVariables false

theorem own : ownKnob Try.prog.godebug = none := by kernel_rfl
theorem laidOut : laidOutB Try.prog = true := by kernel_rfl

theorem walk (a0 : Int) (w0 : (Lit.int .u8 a0).wf = true) (a1 : Int) (w1 : (Lit.int .u8 a1).wf = true) (w : World) :
    Calls Try.prog 7 #[.int .u8 a0, .int .u8 a1] w fun e w' => e = .returned (.bool true) ∧ Below w.heap.size w w' := by
  exact fills_all a0 a1 w0 w1 w

set_option maxRecDepth 100000 in
theorem lifted (os : Os) (started : os.Started) (H : Type) (enc : TypeId × Value → H) :
    ReturnsInHanded {} Try.checked os 7 .any (Rows.znsFillsSpec.pre6 enc Try.prog Try.f7 Rows.znsFillsRow.domain false) (Rows.znsFillsSpec.post enc Try.prog Try.f7 false true false false) := by
  refine returnsInHanded_of_change (C := Try.checked) own started (by kernel_rfl) Try.func7
    (ChangeSpec.witness6 (enc := enc) (C := Try.checked) false ⟨#[], #[.int .u8 0, .int .u8 0], []⟩ 8 (by kernel_rfl) (by kernel_rfl) (by kernel_rfl) (by kernel_rfl)) ?_
  intro W base args ds gs before hval0 hW hcnd _
  have hval : ∀ (j : Nat) t v, Try.f7.params[j]? = some t → args[j]? = some v → Value.okWide Try.prog W .any base t v := hval0
  have hW' := hW
  obtain ⟨p, q, hA0, hV, rfl, hfz, hnd⟩ := hW
  have hA : DataW.TrodAll enc Try.prog W 0 (fun _ => true) true Try.f7.params.toList args.toList ds p := hA0
  rw [Try.params7] at hA hval
  obtain ⟨v0, vs0, d0, ds0, p0, q0, hargs, rfl, rfl, h0, r0⟩ := trodAll_cons hA
  obtain ⟨v1, vs1, d1, ds1, p1, q1, rfl, rfl, rfl, h1, r1⟩ := trodAll_cons r0
  obtain ⟨rfl, rfl, rfl⟩ := trodAll_nil r1
  obtain rfl : args = #[v0, v1] := by cases args; simp_all
  obtain ⟨rfl, rfl⟩ := trodVars_none hV
  have k0' := h0
  have lt0 : ∀ x ∈ p0, x.block < W.heap.size := by obtain ⟨m, hm⟩ := h0; exact DataW.trod_lt m _ _ _ hm
  have k1' := h1
  have lt1 : ∀ x ∈ p1, x.block < W.heap.size := by obtain ⟨m, hm⟩ := h1; exact DataW.trod_lt m _ _ _ hm
  obtain ⟨a0, rfl, _, _, w0⟩ := open_int Try.underlying5 (hval 0 5 v0 rfl rfl) h0
  obtain ⟨a1, rfl, _, _, w1⟩ := open_int Try.underlying5 (hval 1 5 v1 rfl rfl) h1
  clear hA0 hval0
  refine (walk a0 w0 a1 w1 W).mono fun e W' ⟨he, bel⟩ => ?_
  subst he
  exact ⟨_, rfl, _, _, _, [], _, [], hW', trodAll_mk1 (shut_bool Try.underlying4 _), (trodAll_cons_mk (Below.trod laidOut (by kernel_rfl) (of_decide_eq_true (by kernel_rfl)) k0' bel lt0) (trodAll_cons_mk (Below.trod laidOut (by kernel_rfl) (of_decide_eq_true (by kernel_rfl)) k1' bel lt1) trodAll_mk0)), rfl, bel.frame _, fun h => by cases h⟩

theorem over : Rows.znsFillsRow.holds Try.pinned (OpenSpec.ofChange Rows.znsFillsSpec) :=
  OpenClaim.holds_of_wide 7 Try.f7 rfl rfl rfl rfl rfl rfl rfl ⟨rfl, rfl, rfl, rfl, rfl⟩ rfl rfl rfl rfl rfl (by kernel_rfl) Try.func7 (by kernel_rfl)
    (of_decide_eq_true (by kernel_rfl)) (by unfold Func.isWrapper; first | (rw [if_pos (by decide +kernel)]; kernel_rfl) | (rw [if_neg (by decide +kernel)]; exact ⟨rfl, rfl⟩))
    (fun os started H enc _ => lifted os started H enc)
end Go.Proofs.Ytlmlmgegnnikeaa.znsFills

namespace Go.Proofs.Ytlmlmgegnnikeaa
theorem znsFills_holds : Rows.ZnsFillsSaid := znsFills.over
end Go.Proofs.Ytlmlmgegnnikeaa
