/- Texts that belong together, part 22. -/
import Derived.Test.YthhggiifbldaeaaPack21
import Derived.Deep.DeepCutAuto
import Derived.Deep.CutBlock

/- The walk of the document's own Append to a zone that is opened for it. -/
namespace Go.Proofs.Ythhggiifbldaeaa
open Go.RowKit Plan ZnsMath

end Go.Proofs.Ythhggiifbldaeaa

/- The document's own Append, whole. -/
namespace Go.Proofs.Ythhggiifbldaeaa
open Go.RowKit Plan ZnsMath

end Go.Proofs.Ythhggiifbldaeaa

/- The functions of devices without a bound on their zones: a device with too many zones is refused. -/
namespace Go.Proofs.Ythhggiifbldaeaa
open Go.RowKit Plan ZnsMath

theorem check_small {D : Dev} {len : Nat} (hl : D.zones.length = len) (h : checkE D = 0) : len ≤ 1000000 := by
  have := config_parts (check_parts h).1
  omega
theorem zoneE_bad {D : Dev} (k : Int) (h : checkE D ≠ 0) : zoneE D k ≠ 0 := by unfold zoneE; rw [if_pos h]; exact h
theorem beginE_bad {D : Dev} (k : Int) (h : checkE D ≠ 0) : beginE D k ≠ 0 := by unfold beginE; rw [if_pos (zoneE_bad k h)]; exact zoneE_bad k h
end Go.Proofs.Ythhggiifbldaeaa

/- Zoned devices as plain lists: commands lead from valid devices to valid ones. -/
namespace Go.Proofs.Ythhggiifbldaeaa
open ZnsMath

theorem right_all {Z : List Zone} {size : Int} (h : rightsB Z size = true) {i : Nat} {z : Zone} (hz : Z[i]? = some z) : rightB z size = true := by
  unfold rightsB at h
  rw [List.all_eq_true] at h
  exact h z (List.mem_of_getElem? hz)
theorem right_set {Z : List Zone} {size : Int} (h : rightsB Z size = true) (i : Nat) {z : Zone} (hz : rightB z size = true) : rightsB (Z.set i z) size = true := by
  unfold rightsB at h ⊢
  rw [List.all_eq_true] at h ⊢
  intro y hy
  rcases List.mem_or_eq_of_mem_set hy with h1 | h1
  · exact h y h1
  · rw [h1]; exact hz
theorem right_iff (z : Zone) (size : Int) : rightB z size = true ↔ (0 ≤ z.state ∧ z.state ≤ 5 ∧ (z.sectors.length : Int) ≤ size ∧ 0 ≤ z.durable ∧ z.durable ≤ z.sectors.length) ∧ sizesB z.sectors = true ∧
    (if z.state = 0 ∨ z.state = 5 then z.sectors.length = 0 else if z.state = 4 then z.durable = z.sectors.length else (z.sectors.length : Int) < size) := by
  unfold rightB
  rw [Bool.and_eq_true, Bool.and_eq_true, decide_eq_true_eq]
  constructor
  · rintro ⟨⟨h1, h2⟩, h3⟩
    refine ⟨by omega, h2, ?_⟩
    split at h3
    · rename_i h; rw [if_pos h]; simpa using h3
    · rename_i h
      rw [if_neg h]
      split at h3
      · rename_i h4; rw [if_pos h4]; simpa using h3
      · rename_i h4; rw [if_neg h4]; simpa using h3
  · rintro ⟨h1, h2, h3⟩
    refine ⟨⟨by omega, h2⟩, ?_⟩
    split at h3
    · rename_i h; rw [if_pos h]; simpa using h3
    · rename_i h
      rw [if_neg h]
      split at h3
      · rename_i h4; rw [if_pos h4]; simpa using h3
      · rename_i h4; rw [if_neg h4]; simpa using h3
/-- a valid device with another zone -/
theorem valid_with {D : Dev} {k : Nat} {y z : Zone} (hc : checkE D = 0) (hk : D.zones[k]? = some y) (hz : rightB z D.size = true)
    (ho : countO D.zones + (if openB z.state = true then 1 else 0) ≤ D.maxOpen.toNat + (if openB y.state = true then 1 else 0))
    (ha : countA D.zones + (if activeB z.state = true then 1 else 0) ≤ D.maxActive.toNat + (if activeB y.state = true then 1 else 0)) : checkE (withZ D k z) = 0 := by
  obtain ⟨h1, h2, h3, h4⟩ := check_parts hc
  have hp := config_parts h1
  have c1 := countO_set D.zones k y z hk
  have c2 := countA_set D.zones k y z hk
  refine check_of ?_ (right_set h2 k hz) ?_ ?_
  · rw [configB_eq] at h1 ⊢
    simp only [withZ, List.length_set]
    exact h1
  · show (countO (D.zones.set k z) : Int) ≤ D.maxOpen
    omega
  · show (countA (D.zones.set k z) : Int) ≤ D.maxActive
    omega
theorem right_empty {size : Int} (h : 0 ≤ size) : rightB empty size = true := by
  rw [right_iff]
  refine ⟨?_, rfl, rfl⟩
  simp [empty]
  exact h
theorem zone_of {D : Dev} {k : Nat} (hk : k < D.zones.length) : ∃ y, D.zones[k]? = some y := ⟨D.zones[k], List.getElem?_eq_getElem hk⟩
/-- what a command leaves: a valid device with as many zones of one size, and what could be read but for one zone -/
structure Kept (D X : Dev) (k : Nat) : Prop where
  valid : checkE X = 0
  size : X.size = D.size
  op : X.maxOpen = D.maxOpen
  act : X.maxActive = D.maxActive
  length : X.zones.length = D.zones.length
/-- nothing that could be read is lost -/
def Reads (D X : Dev) (j : Nat) : Prop := ∀ y, D.zones[j]? = some y → ∃ x T, X.zones[j]? = some x ∧ x.sectors = y.sectors ++ T ∧ (x.state = 5 → y.state = 5)
theorem reads_refl (D : Dev) (j : Nat) : Reads D D j := fun y hy => ⟨y, [], hy, by simp, id⟩
theorem reads_trans {D X Y : Dev} {j : Nat} (h : Reads D X j) (h2 : Reads X Y j) : Reads D Y j := fun y hy => by
  obtain ⟨x, T, h1, h3, h4⟩ := h y hy
  obtain ⟨z, U, h5, h6, h7⟩ := h2 x h1
  exact ⟨z, T ++ U, h5, by rw [h6, h3, List.append_assoc], fun h => h4 (h7 h)⟩
theorem kept_refl {D : Dev} (hc : checkE D = 0) (k : Nat) : Kept D D k := ⟨hc, rfl, rfl, rfl, rfl⟩
theorem kept_with {D : Dev} {k : Nat} {z : Zone} (h : checkE (withZ D k z) = 0) : Kept D (withZ D k z) k := ⟨h, rfl, rfl, rfl, by simp [withZ]⟩
theorem kept_trans {D X Y : Dev} {k : Nat} (h : Kept D X k) (h2 : Kept X Y k) : Kept D Y k := ⟨h2.valid, h2.size.trans h.size, h2.op.trans h.op, h2.act.trans h.act, h2.length.trans h.length⟩
theorem reads_with {D : Dev} {k j : Nat} {y z : Zone} (hk : D.zones[k]? = some y) (T : List ByteArray) (hs : z.sectors = y.sectors ++ T) (h5 : z.state = 5 → y.state = 5) : Reads D (withZ D k z) j := fun x hx => by
  by_cases hjk : k = j
  · subst hjk
    obtain rfl := Option.some.inj (hk.symm.trans hx)
    exact ⟨z, T, by simp only [withZ]; rw [List.getElem?_set_self (List.getElem?_eq_some_iff.1 hk).1], hs, h5⟩
  · exact ⟨x, [], by simp only [withZ]; rw [List.getElem?_set_ne hjk]; exact hx, by simp, id⟩
theorem reads_other {D : Dev} {k j : Nat} (z : Zone) (hjk : k ≠ j) : Reads D (withZ D k z) j := fun x hx => ⟨x, [], by simp only [withZ]; rw [List.getElem?_set_ne hjk]; exact hx, by simp, id⟩
/-- the states of a right zone -/
theorem open_state {s : Int} (h : openB s = true) : s = 1 ∨ s = 2 := by
  unfold openB at h
  simpa using h
theorem act_state {s : Int} (h : activeB s = true) : s = 1 ∨ s = 2 ∨ s = 3 := by
  unfold activeB openB at h
  simp at h
  omega
theorem reset_kept {D : Dev} {k : Nat} (hc : checkE D = 0) (hk : k < D.zones.length) : Kept D (resetR D (k : Int)) k ∧ ∀ j, j ≠ k → Reads D (resetR D (k : Int)) j := by
  obtain ⟨y, hy⟩ := zone_of hk
  by_cases hb : beginE D (k : Int) = 0
  · rw [resetR_yes hb]
    obtain ⟨h1, h2, h3, h4⟩ := check_parts hc
    have hp := config_parts h1
    refine ⟨kept_with (valid_with hc hy (right_empty (by omega)) ?_ ?_), fun j hj => reads_other _ (Ne.symm hj)⟩
    · rw [if_neg (by decide)]; omega
    · rw [if_neg (by decide)]; omega
  · rw [resetR_no hb]
    exact ⟨kept_refl hc k, fun j _ => reads_refl D j⟩
theorem finish_kept {D : Dev} {k : Nat} (hc : checkE D = 0) (hk : k < D.zones.length) : Kept D (finishR D (k : Int)) k ∧ ∀ j, Reads D (finishR D (k : Int)) j := by
  obtain ⟨y, hy⟩ := zone_of hk
  by_cases hb : beginE D (k : Int) = 0
  · rw [finishR_yes hb hy]
    obtain ⟨h1, h2, h3, h4⟩ := check_parts hc
    have hr := (right_iff _ _).1 (right_all h2 hy)
    refine ⟨kept_with (valid_with hc hy ?_ ?_ ?_), fun j => reads_with hy [] (by simp) (fun h => by cases h)⟩
    · rw [right_iff]
      refine ⟨?_, hr.2.1, ?_⟩
      · simp only
        omega
      · rw [if_neg (by simp), if_pos rfl]
    · rw [if_neg (by simp [openB])]; omega
    · rw [if_neg (by simp [activeB, openB])]; omega
  · rw [finishR_no hb]
    exact ⟨kept_refl hc k, fun j => reads_refl D j⟩
/-- closing an active zone -/
theorem shut_kept {D : Dev} {k : Nat} {y : Zone} (hc : checkE D = 0) (hy : D.zones[k]? = some y) (ha : activeB y.state = true) : Kept D (withZ D k (shut y)) k ∧ ∀ j, Reads D (withZ D k (shut y)) j := by
  obtain ⟨h1, h2, h3, h4⟩ := check_parts hc
  have hr := (right_iff _ _).1 (right_all h2 hy)
  have hst := act_state ha
  have hlen : (y.sectors.length : Int) < D.size := by
    have := hr.2.2
    rw [if_neg (by omega), if_neg (by omega)] at this
    exact this
  have hns : (shut y).state = 0 ∧ y.sectors.length = 0 ∨ (shut y).state = 3 ∧ y.sectors.length ≠ 0 := by
    unfold shut
    by_cases h : y.sectors.length = 0
    · exact .inl ⟨if_pos h, h⟩
    · exact .inr ⟨if_neg h, h⟩
  refine ⟨kept_with (valid_with hc hy ?_ ?_ ?_), fun j => reads_with hy [] (by simp [shut]) (fun h => by omega)⟩
  · rw [right_iff]
    have e1 : (shut y).durable = y.durable := rfl
    have e2 : (shut y).sectors = y.sectors := rfl
    rw [e1, e2]
    refine ⟨by omega, hr.2.1, ?_⟩
    rcases hns with ⟨h, h'⟩ | ⟨h, h'⟩
    · rw [if_pos (.inl h)]; exact h'
    · rw [if_neg (by omega), if_neg (by omega)]; exact hlen
  · have : openB (shut y).state = false := by rcases hns with ⟨h, _⟩ | ⟨h, _⟩ <;> rw [h] <;> rfl
    rw [this, if_neg (by decide)]; omega
  · rw [if_pos ha]
    split <;> omega
theorem close_kept {D : Dev} {k : Nat} (hc : checkE D = 0) (hk : k < D.zones.length) : Kept D (closeR D (k : Int)) k ∧ ∀ j, Reads D (closeR D (k : Int)) j := by
  obtain ⟨y, hy⟩ := zone_of hk
  unfold closeR
  split
  · rename_i he
    split
    · exact ⟨kept_refl hc k, fun j => reads_refl D j⟩
    · rw [Int.toNat_natCast, getD_of hy]
      refine shut_kept hc hy ?_
      unfold closeE at he
      split at he
      · rename_i hb; exact absurd he hb
      · split at he
        · rename_i h; rw [stateAt_of hy] at h; exact h
        · cases he
  · exact ⟨kept_refl hc k, fun j => reads_refl D j⟩
/-- making room -/
theorem cleared_kept {D : Dev} (hc : checkE D = 0) (h8 : ¬ (D.maxOpen ≤ countO D.zones ∧ firstOpen D.zones = D.zones.length)) (k : Nat) : Kept D (cleared D) k ∧ (∀ j, Reads D (cleared D) j) ∧ (countO (cleared D).zones : Int) < D.maxOpen ∧ countA (cleared D).zones ≤ countA D.zones := by
  obtain ⟨h1, h2, h3, h4⟩ := check_parts hc
  have hp := config_parts h1
  unfold cleared
  split
  · rename_i hO
    have hf : firstOpen D.zones < D.zones.length := by
      have := first_le D.zones
      rcases Nat.lt_or_ge (firstOpen D.zones) D.zones.length with h | h
      · exact h
      · exact absurd ⟨hO, by omega⟩ h8
    obtain ⟨y, hy⟩ := zone_of hf
    have hs := first_eq _ _ hy
    rw [getD_of hy]
    have ha : activeB y.state = true := by rw [hs]; rfl
    have hk := shut_kept hc hy ha
    have hcl := closing_counts hy hs
    refine ⟨⟨hk.1.valid, rfl, rfl, rfl, hk.1.length⟩, hk.2, ?_, hcl.2⟩
    show (countO (D.zones.set (firstOpen D.zones) (shut y)) : Int) < D.maxOpen
    omega
  · rename_i hO
    exact ⟨kept_refl hc k, fun j => reads_refl D j, by omega, Nat.le_refl _⟩
theorem room_no {D : Dev} {k : Nat} (h : roomE D k = 0) : ¬ (D.maxOpen ≤ countO D.zones ∧ firstOpen D.zones = D.zones.length) ∧ (activeB (D.zones.getD k empty).state = false → ¬ D.maxActive ≤ countA (cleared D).zones) := by
  unfold roomE at h
  split at h
  · cases h
  · rename_i h1
    split at h
    · cases h
    · rename_i h2
      exact ⟨h1, fun ha hm => h2 ⟨ha, hm⟩⟩
/-- a zone that is made open, or full, in a device that is ready for it -/
theorem ready_kept {D : Dev} {k : Nat} {y : Zone} (hc : checkE D = 0) (hy : D.zones[k]? = some y) (h : openB y.state = true ∨ roomE D k = 0) :
    Kept D (ready D (k : Int)) k ∧ (∀ j, Reads D (ready D (k : Int)) j) ∧ (ready D (k : Int)).zones[k]? = some y ∧
      countO (ready D (k : Int)).zones + 1 ≤ D.maxOpen.toNat + (if openB y.state = true then 1 else 0) ∧ countA (ready D (k : Int)).zones + 1 ≤ D.maxActive.toNat + (if activeB y.state = true then 1 else 0) := by
  obtain ⟨h1, h2, h3, h4⟩ := check_parts hc
  have hat := ready_at hy
  cases ho : openB y.state with
  | true =>
    have hrd : ready D (k : Int) = D := by unfold ready; rw [stateAt_of hy, if_pos ho]
    rw [hrd]
    have ha : activeB y.state = true := by simp [activeB, ho]
    rw [ha, if_pos rfl]
    exact ⟨kept_refl hc k, fun j => reads_refl D j, hy, by omega, by omega⟩
  | false =>
    have hE : roomE D k = 0 := by
      rcases h with h | h
      · rw [ho] at h; cases h
      · exact h
    have hrd : ready D (k : Int) = cleared D := by
      unfold ready
      rw [stateAt_of hy, ho, if_neg (by decide), Int.toNat_natCast]
      unfold roomR
      rw [if_pos hE]
    rw [hrd] at hat ⊢
    obtain ⟨r1, r2⟩ := room_no hE
    rw [getD_of hy] at r2
    obtain ⟨k1, k2, k3, k4⟩ := cleared_kept hc r1 k
    refine ⟨k1, k2, hat, by rw [if_neg (by decide)]; omega, ?_⟩
    cases ha : activeB y.state with
    | true => rw [if_pos rfl]; omega
    | false =>
      have := r2 ha
      rw [if_neg (by decide)]
      omega
theorem open_kept {D : Dev} {k : Nat} (hc : checkE D = 0) (hk : k < D.zones.length) : Kept D (openR D (k : Int)) k ∧ ∀ j, Reads D (openR D (k : Int)) j := by
  obtain ⟨y, hy⟩ := zone_of hk
  unfold openR
  split
  · rename_i he
    unfold openE at he
    split at he
    · rename_i hb; exact absurd he hb
    · rename_i hb
      have hb : beginE D (k : Int) = 0 := by omega
      obtain ⟨i, hi, -, -, h5⟩ := begin_range hb
      split at he
      · cases he
      · rename_i h4
        rw [stateAt_of hy] at h4 h5 he
        have hro : openB y.state = true ∨ roomE D k = 0 := by
          split at he
          · rename_i h; exact .inl h
          · exact .inr he
        obtain ⟨r1, r2, r3, r4, r5⟩ := ready_kept hc hy hro
        rw [Int.toNat_natCast, getD_of r3]
        have hr := (right_iff _ _).1 (right_all (check_parts hc).2.1 hy)
        have hlen : (y.sectors.length : Int) < D.size := by
          have := hr.2.2
          split at this
          · rename_i h0
            have := (config_parts (check_parts hc).1).2.2.1
            omega
          · first | exact this | (rw [if_neg h4] at this; exact this)
        have hv : checkE (withZ (ready D (k : Int)) k (held y)) = 0 := by
          refine valid_with r1.valid r3 ?_ ?_ ?_
          · rw [right_iff, r1.size]
            refine ⟨⟨by simp [held], by simp [held], hr.1.2.2.1, hr.1.2.2.2.1, hr.1.2.2.2.2⟩, hr.2.1, ?_⟩
            rw [if_neg (by simp [held]), if_neg (by simp [held])]
            exact hlen
          · rw [r1.op, show openB (held y).state = true from rfl, if_pos rfl]; exact r4
          · rw [r1.act, show activeB (held y).state = true from rfl, if_pos rfl]; exact r5
        exact ⟨kept_trans r1 (kept_with hv), fun j => reads_trans (r2 j) (reads_with r3 [] (by simp [held]) (fun h => by simp [held] at h))⟩
  · exact ⟨kept_refl hc k, fun j => reads_refl D j⟩
theorem sizes_app {L : List ByteArray} {s : ByteArray} (h : sizesB L = true) (hs : s.size = 40) : sizesB (L ++ [s]) = true := by
  rw [sizesB_snoc, h, hs]; rfl
theorem append_kept {D : Dev} {k : Nat} {s : ByteArray} (hc : checkE D = 0) (hk : k < D.zones.length) : Kept D (appendR D (k : Int) s) k ∧ ∀ j, Reads D (appendR D (k : Int) s) j := by
  obtain ⟨y, hy⟩ := zone_of hk
  unfold appendR
  split
  · rename_i he
    unfold appendE at he
    split at he
    · rename_i hb; exact absurd he hb
    · split at he
      · cases he
      · rename_i hs
        split at he
        · cases he
        · rename_i h5
          split at he
          · cases he
          · rename_i h4
            rw [stateAt_of hy] at h4 h5 he
            have hs : s.size = 40 := by omega
            have hro : openB y.state = true ∨ roomE D k = 0 := by
              split at he
              · rename_i h; exact .inl h
              · exact .inr he
            obtain ⟨r1, r2, r3, r4, r5⟩ := ready_kept hc hy hro
            rw [Int.toNat_natCast, getD_of r3]
            have hr := (right_iff _ _).1 (right_all (check_parts hc).2.1 hy)
            have hlen : (y.sectors.length : Int) < D.size := by
              have := hr.2.2
              split at this
              · rename_i h0
                have := (config_parts (check_parts hc).1).2.2.1
                omega
              · first | exact this | (rw [if_neg h4] at this; exact this)
            have hsz := sizes_app hr.2.1 hs
            have hv : checkE (withZ (ready D (k : Int)) k (appended y s D.size)) = 0 := by
              unfold appended
              split
              · rename_i hf
                refine valid_with r1.valid r3 ?_ ?_ ?_
                · rw [right_iff, r1.size]
                  refine ⟨?_, hsz, ?_⟩
                  · simp only [List.length_append, List.length_singleton]
                    omega
                  · rw [if_neg (by simp), if_pos rfl]
                    simp only [List.length_append, List.length_singleton]
                    omega
                · rw [r1.op, show openB (4 : Int) = false from rfl, if_neg (by decide)]; omega
                · rw [r1.act, show activeB (4 : Int) = false from rfl, if_neg (by decide)]; omega
              · rename_i hf
                have hst : (if openB y.state = true then y.state else 1) = 1 ∨ (if openB y.state = true then y.state else 1) = 2 := by
                  split
                  · rename_i h; exact open_state h
                  · exact .inl rfl
                generalize (if openB y.state = true then y.state else 1) = st at hst
                have o1 : openB st = true := by rcases hst with rfl | rfl <;> rfl
                have a1 : activeB st = true := by rcases hst with rfl | rfl <;> rfl
                refine valid_with r1.valid r3 ?_ ?_ ?_
                · rw [right_iff, r1.size]
                  refine ⟨?_, hsz, ?_⟩
                  · simp only [List.length_append, List.length_singleton]
                    omega
                  · simp only [List.length_append, List.length_singleton]
                    rw [if_neg (by omega), if_neg (by omega)]
                    omega
                · rw [r1.op, o1, if_pos rfl]; exact r4
                · rw [r1.act, a1, if_pos rfl]; exact r5
            refine ⟨kept_trans r1 (kept_with hv), fun j => reads_trans (r2 j) (reads_with r3 [s] (appended_sectors y s D.size) (fun h => ?_))⟩
            unfold appended at h
            split at h
            · cases h
            · simp only at h
              split at h
              · exact h
              · cases h
  · exact ⟨kept_refl hc k, fun j => reads_refl D j⟩
end Go.Proofs.Ythhggiifbldaeaa

/- The walk of the maker's Odd, for a device of few sectors. -/
namespace Go.Proofs.Ythhggiifbldaeaa
open Go.RowKit Plan ZnsMath

/-- a device, whatever -/
def AnyDev (w : World) (e : Ending) (w' : World) : Prop :=
  ∃ (D : Dev) (a : Option Addr) (n cap : Nat), e = .returned (devV D a n cap) ∧ IsZones w' a n cap D.zones ∧ Below w.heap.size w w' ∧ n ≤ 1000
/-- a device, whatever, in the blocks of a set or in new ones -/
def AnyDevF (w : World) (F : Nat → Prop) (e : Ending) (w' : World) : Prop :=
  ∃ (D : Dev) (a : Option Addr) (n cap : Nat), e = .returned (devV D a n cap) ∧ ZonesIn w' (Plus F w.heap.size) a n cap D.zones ∧ Below w.heap.size w w' ∧ n ≤ 1000
theorem run_store_slice (w : World) (ty : TypeId) (b o : Nat) (sa : Option Addr) (sl sc : Nat) (hc : ∃ u, w.cell? ⟨b, o, none⟩ = some u) (hf : w.frozen? ⟨b, o, none⟩ = false) (hi : (Try.prog.info? ty).map (·.size) = some 1) :
    (storeVar ty ⟨b, o, none⟩ (.slice sa sl sc)).run Try.prog w = .ok () (w.setCell ⟨b, o, none⟩ (.slice sa sl sc)) := by
  obtain ⟨u, hu⟩ := hc
  cases hq : Try.prog.info? ty with
  | none => simp [hq] at hi
  | some i =>
    have hs : i.size = 1 := by simpa [hq] using hi
    have hst := run_store Try.prog w ⟨b, o, none⟩ (.slice sa sl sc) .plain rfl
    rw [hu, hf] at hst
    simp only [Bool.false_eq_true, if_false] at hst
    have ha : (⟨b, o, none⟩ : Addr).add 0 = ⟨b, o, none⟩ := by rw [Addr.add_lit, Nat.add_zero]
    simp [storeVar, sizeOf, typeInfo, hq, Value.cells, hs, storeCells, ha, hst]
theorem wp_store_slice {op : Oper} {a : Act} {w : World} {K : Act → World → Prop} {Q : Exit → Act → World → Prop} (ty : TypeId) (x y : Operand) (ho : op.op = .store ty x y)
    (b o : Nat) (sa : Option Addr) (sl sc : Nat) (hx : a.eval x = .pointer (some ⟨b, o, none⟩)) (hy : a.eval y = .slice sa sl sc) (hc : ∃ u, w.cell? ⟨b, o, none⟩ = some u) (hf : w.frozen? ⟨b, o, none⟩ = false) (hi : (Try.prog.info? ty).map (·.size) = some 1)
    (h : K (a.put op.dst undef) (w.setCell ⟨b, o, none⟩ (.slice sa sl sc))) : op.wp Try.prog a w K Q := by
  unfold Oper.wp execOp
  simp only [ho, hx, hy, Instr.storeAt, Instr.sureAddr, Sem.run_bind, Sem.run_pure, Result.andThen_ok, run_store_slice w ty b o sa sl sc hc hf hi]
  exact h
theorem store_int_lit {ops : Array Oper} {rest : List Oper} {a : Act} {w : World} {Q : Exit → Act → World → Prop} (ty : TypeId) (x y : Operand) {t' : TypeId} {pos : String} {after : Array Edge}
    (b o : Nat) (k : IntKind) (n : Int) (hx : a.eval x = .pointer (some ⟨b, o, none⟩)) (hy : a.eval y = .int k n) (hc : ∃ u, w.cell? ⟨b, o, none⟩ = some u) (hf : w.frozen? ⟨b, o, none⟩ = false) (hi : (Try.prog.info? ty).map (·.size) = some 1)
    (h : wpList Try.prog ops Q rest (a.put none undef) (w.setCell ⟨b, o, none⟩ (.int k n))) : wpList Try.prog ops Q (⟨none, .store ty x y, t', pos, after, none⟩ :: rest) a w :=
  wpList_plain rfl fun _ hK => wp_store_int ty x y rfl b o k n hx hy hc hf hi (hK _ _ h)
theorem store_slice_lit {ops : Array Oper} {rest : List Oper} {a : Act} {w : World} {Q : Exit → Act → World → Prop} (ty : TypeId) (x y : Operand) {t' : TypeId} {pos : String} {after : Array Edge}
    (b o : Nat) (sa : Option Addr) (sl sc : Nat) (hx : a.eval x = .pointer (some ⟨b, o, none⟩)) (hy : a.eval y = .slice sa sl sc) (hc : ∃ u, w.cell? ⟨b, o, none⟩ = some u) (hf : w.frozen? ⟨b, o, none⟩ = false) (hi : (Try.prog.info? ty).map (·.size) = some 1)
    (h : wpList Try.prog ops Q rest (a.put none undef) (w.setCell ⟨b, o, none⟩ (.slice sa sl sc))) : wpList Try.prog ops Q (⟨none, .store ty x y, t', pos, after, none⟩ :: rest) a w :=
  wpList_plain rfl fun _ hK => wp_store_slice ty x y rfl b o sa sl sc hx hy hc hf hi (hK _ _ h)
theorem zone_slice_info1 : (Try.prog.info? 27).map (·.size) = some 1 := by kernel_rfl
theorem str_slice_info1 : (Try.prog.info? 67).map (·.size) = some 1 := by kernel_rfl
theorem odd_end {w wE : World} {F G : Nat → Prop} {B g n c r : Nat} {C : List Value} {Z : List Zone} (hG : ∀ b, G b → Plus F w.heap.size b) (hlo : w.heap.size ≤ g) (O : wE.ownsRow B 69 3 (.slice (some ⟨g, 0, none⟩) n c) n C) (hz : ZCells wE G C Z) (hF : ¬ G r) (hg : g ≠ r) (hr : w.heap.size ≤ r) (b : Below w.heap.size w wE) (cs : Array Value) :
    ZonesIn (wE.setRow r cs) (Plus F w.heap.size) (some ⟨g, 0, none⟩) n c Z ∧ Below w.heap.size w (wE.setRow r cs) := by
  refine ⟨?_, below_setRow b hr cs⟩
  obtain ⟨-, a', cap', heq, h⟩ := owns_zones (F := Plus F w.heap.size) (owns_other (H := r) (cs := cs) O hg) ((hz.on (Agree.row hF cs)).mono (fun b _ h => hG b h)) (fun b hb => by
    have h2 := Option.some.inj (show some g = some b from hb)
    subst h2
    exact .inr hlo)
  cases heq
  exact h
theorem odd_cells {w : World} {F : Nat → Prop} {B g n c j : Nat} {C : List Value} {Z : List Zone} {z : Zone} (O : w.ownsRow B 69 3 (.slice (some ⟨g, 0, none⟩) n c) n C) (hz : ZCells w F C Z) (hj : Z[j]? = some z) :
    w.cell? ⟨g, j * 3, none⟩ = some (.int .i64 z.state) ∧ w.cell? ⟨g, j * 3 + 1, none⟩ = some (.int .i64 z.durable) ∧ (∃ sa sl sc, w.cell? ⟨g, j * 3 + 2, none⟩ = some (.slice sa sl sc) ∧ StrsIn w F sa sl sc z.sectors) ∧
    w.frozen? ⟨g, j * 3, none⟩ = false ∧ w.frozen? ⟨g, j * 3 + 1, none⟩ = false ∧ w.frozen? ⟨g, j * 3 + 2, none⟩ = false := by
  obtain ⟨c1, c2, sa, sl, sc, c3, hs⟩ := hz.2 j z hj
  have e0 := O.cells (g := g) rfl _ _ c1
  have e1 := O.cells (g := g) rfl _ _ c2
  have e2 := O.cells (g := g) rfl _ _ c3
  rw [add_lit0] at e0 e1 e2
  exact ⟨e0, e1, ⟨sa, sl, sc, e2, hs⟩, owns_free5 O _, owns_free5 O _, owns_free5 O _⟩
theorem zowns_on {w w' : World} {B sz n : Nat} {t : TypeId} {v : Value} {xs : List Value} (h : w.ownsRow B t sz v n xs) (hb : Below w.heap.size w w') : w'.ownsRow B t sz v n xs := by
  refine h.kept (row := none) ⟨hb.os, hb.tape, hb.output, hb.size, fun i hi _ => hb.block i hi⟩ ?_
  cases v.ownBlock <;> simp
theorem set_at {Z : List Zone} {j : Nat} {z y : Zone} (h : Z[j]? = some z) : (Z.set j y)[j]? = some y := List.getElem?_set_self (List.getElem?_eq_some_iff.1 h).1
theorem ZCells.st {w : World} {F : Nat → Prop} {C : List Value} {Z : List Zone} (h : ZCells w F C Z) {j : Nat} {z : Zone} (hz : Z[j]? = some z) (v : Int) : ZCells w F (C.set (j * 3) (.int .i64 v)) (Z.set j ⟨v, z.durable, z.sectors⟩) := by
  obtain ⟨c1, c2, sa, sl, sc, c3, hs⟩ := h.2 j z hz
  have := h.set j (List.getElem?_eq_some_iff.1 hz).1 ⟨v, z.durable, z.sectors⟩ (sa := sa) (sl := sl) (sc := sc) hs
  rw [set_same (i := j * 3 + 1) (u := .int .i64 z.durable) (by rw [List.getElem?_set_ne (by omega)]; exact c2)] at this
  rw [set_same (u := .slice sa sl sc) (by rw [List.getElem?_set_ne (by omega)]; exact c3)] at this
  exact this
theorem ZCells.du {w : World} {F : Nat → Prop} {C : List Value} {Z : List Zone} (h : ZCells w F C Z) {j : Nat} {z : Zone} (hz : Z[j]? = some z) (v : Int) : ZCells w F (C.set (j * 3 + 1) (.int .i64 v)) (Z.set j ⟨z.state, v, z.sectors⟩) := by
  obtain ⟨c1, c2, sa, sl, sc, c3, hs⟩ := h.2 j z hz
  have := h.set j (List.getElem?_eq_some_iff.1 hz).1 ⟨z.state, v, z.sectors⟩ (sa := sa) (sl := sl) (sc := sc) hs
  rw [set_same (i := j * 3) (u := .int .i64 z.state) c1] at this
  rw [set_same (u := .slice sa sl sc) (by rw [List.getElem?_set_ne (by omega)]; exact c3)] at this
  exact this
theorem ZCells.se {w : World} {F : Nat → Prop} {C : List Value} {Z : List Zone} (h : ZCells w F C Z) {j : Nat} {z : Zone} (hz : Z[j]? = some z) {sa : Option Addr} {sl sc : Nat} {L : List ByteArray} (hs : StrsIn w F sa sl sc L) : ZCells w F (C.set (j * 3 + 2) (.slice sa sl sc)) (Z.set j ⟨z.state, z.durable, L⟩) := by
  obtain ⟨c1, c2, _, _, _, c3, _⟩ := h.2 j z hz
  have := h.set j (List.getElem?_eq_some_iff.1 hz).1 ⟨z.state, z.durable, L⟩ (sa := sa) (sl := sl) (sc := sc) hs
  rw [set_same (i := j * 3) (u := .int .i64 z.state) c1, set_same (i := j * 3 + 1) (u := .int .i64 z.durable) c2] at this
  exact this
set_option maxHeartbeats 2000000 in
set_option maxRecDepth 20000 in
theorem odd_in (F : Nat → Prop) (D : Dev) (a : Option Addr) (n cap : Nat) (p1 p2 p3 : Int) (w : World) (hz : ZonesIn w F a n cap D.zones) (hc : ∀ (i : Nat) z, D.zones[i]? = some z → z.sectors.length ≤ 1000000) (hn1 : 1 ≤ n) (hn : n ≤ 1000) :
    Calls Try.prog 10 #[devV D a n cap, .int .i64 p1, .int .i64 p2, .int .i64 p3] w (AnyDevF w F) := by
  obtain ⟨i1, hi1, hy0, hy1, hy2⟩ := info_parts zone_info6
  obtain ⟨x, rfl⟩ : ∃ x, a = some x := by
    rcases hz with ⟨_, rfl, _, _⟩ | ⟨x, rfl, _⟩
    · omega
    · exact ⟨x, rfl⟩
  have hlen := hz.is.length
  have hA : Below w.heap.size w ((w.alloc (devRow D.size D.maxOpen D.maxActive (some x) n cap)).alloc (devRow 0 0 0 none 0 0)) := ((Below.refl _ _).alloc (Nat.le_refl _) _).alloc (by simp) _
  obtain ⟨C, hC1, hC2', hC3⟩ := hz.cells
  have hC2 := fun W (hb : Below w.heap.size w W) j u (hu : C[j]? = some u) => (hb.cell (block_lt_of_cell (hC2' j u hu))).trans (hC2' j u hu)
  obtain ⟨j, hj, hjn⟩ : ∃ j : Nat, p2 % (n : Int) = (j : Int) ∧ j < n := by
    have h1 := Int.emod_nonneg p2 (show (n : Int) ≠ 0 by omega)
    have h2 := Int.emod_lt_of_pos p2 (show (0 : Int) < n by omega)
    exact ⟨(p2 % (n : Int)).toNat, by omega, by omega⟩
  have hj2 := fun W => mod_any p2 (n : Int) (by omega) (by omega) W
  rw [hj] at hj2
  have hk2 := fun W => mod_any p1 9 (by decide) (by decide) W
  have hkr : 0 ≤ p1 % 9 ∧ p1 % 9 < 9 := ⟨Int.emod_nonneg _ (by decide), Int.emod_lt_of_pos _ (by decide)⟩
  generalize p1 % 9 = kd at hk2 hkr
  have hm8 := fun W => mod_any p3 8 (by decide) (by decide) W
  have hm5 := fun W => mod_any p3 5 (by decide) (by decide) W
  have hm6 := fun W => mod_any p3 6 (by decide) (by decide) W
  generalize p3 % 8 = m8 at hm8
  generalize p3 % 5 = m5 at hm5
  generalize p3 % 6 = m6 at hm6
  have HJ := Lib.hid hj2
  have HK := Lib.hid hk2
  have H8 := Lib.hid hm8
  have H5 := Lib.hid hm5
  have H6 := Lib.hid hm6
  have HA := Lib.hid hA
  have HC1 := Lib.hid hC1
  have HC2 := Lib.hid hC2
  have HC3 := Lib.hid hC3
  clear hj2 hk2 hm8 hm5 hm6 hA hC1 hC2 hC2' hC3 hj
  unfold AnyDevF
  have HCK := Lib.hid hc
  clear hc
  obtain ⟨size, op, act, Z⟩ := D
  try simp only at HC1 hlen hz
  have hjI : (j : Int) < (n : Int) := by omega
  have hn0 : ((n : Int) == 0) = false := by simp; omega
  have hx3 := heap_first2 w (devRow size op act (some x) n cap) (devRow 0 0 0 none 0 0)
  have hr3 := heap_second w (devRow size op act (some x) n cap) (devRow 0 0 0 none 0 0)
  go_enter Try.func10, Try.ntmps10
  generalize hw3 : (w.alloc (devRow size op act (some x) n cap)).alloc (devRow 0 0 0 none 0 0) = w3 at *
  obtain ⟨v3, k0, k1, k2, k3⟩ := row4 hx3
  go_wp2_with (first
    | (at_builtin; have s3 : w3.heap.size = w.heap.size + 1 + 1 := (by rw [← hw3]; simp only [World.size_alloc]); have E0 := zones_empty1 w3 rfl; refine wpList_append_lies _ rfl _ _ 27 rfl w3.heap.size 69 i1 _ 3 40 Try.underlying27 hi1 hy0 hy1 hy2 rfl (by decide) _ 0 [] (by rfl) E0 x n cap C rfl (by rw [HC1.out.1, hlen]) (HC2.out _ (HA.out.alloc HA.out.size _)) HC3.out (by omega) (by unfold maxLen; omega) (by omega) (by simp) _ rfl ?_; intro g7 c7 w7 hown7 hgrow7 hat7 hlt7; have O7 := owns_copy hown7; have hgrow7 : (w3.alloc (.cells #[] 69)).grownBy w7 (some w3.heap.size) := hgrow7; have hx7 := (hgrow7.block _ (lt_of_block (row_al hx3 _)) (fun e => by have := Option.some.inj e; omega)).trans (row_al hx3 (.cells #[] 69)); have hr7 := (hgrow7.block _ (lt_of_block (row_al hr3 _)) (fun e => by have := Option.some.inj e; omega)).trans (row_al hr3 (.cells #[] 69)); have b7 := (HA.out.alloc HA.out.size (.cells #[] 69)).grown hgrow7 (by simp; omega) (fun k hk => by have := Option.some.inj hk; omega); have hg7 := (O7.lt g7 rfl).1; obtain ⟨v7, l0, l1, l2, l3⟩ := row4 hx7; have f7 := row_free hx7 3; clear hown7 hgrow7)
    | ((with_reducible refine store_slice_lit 27 (.tmp 14) _ w.heap.size 3 (some ⟨g7, 0, none⟩) n c7 ?_ ?_ ⟨_, l3⟩ f7 zone_slice_info1 ?_); (· rfl); (· rfl); simp only [Act.put]; have hx8 : (w7.setCell ⟨w.heap.size, 3, none⟩ (.slice (some ⟨g7, 0, none⟩) n c7)).heap[w.heap.size]? = some (devRow size op act (some ⟨g7, 0, none⟩) n c7) := setCell_row hx7 3 (.slice (some ⟨g7, 0, none⟩) n c7); have hr8 := (Below.heap_setCell w7 ⟨w.heap.size, 3, none⟩ (.slice (some ⟨g7, 0, none⟩) n c7) (w.heap.size + 1) (by show w.heap.size + 1 ≠ w.heap.size; omega)).trans hr7; have b8 := b7.setCell (show w.heap.size ≤ (⟨w.heap.size, 3, none⟩ : Addr).block from Nat.le_refl _) (.slice (some ⟨g7, 0, none⟩) n c7); have O8 := ownsRow_setCell_other O7 (a := ⟨w.heap.size, 3, none⟩) (fun e => by have := Option.some.inj (show some g7 = some w.heap.size from e); omega) (.slice (some ⟨g7, 0, none⟩) n c7); generalize w7.setCell ⟨w.heap.size, 3, none⟩ (.slice (some ⟨g7, 0, none⟩) n c7) = w8 at hx8 hr8 b8 O8 ⊢; clear l0 l1 l2 l3 f7; obtain ⟨v8, l0, l1, l2, l3⟩ := row4 hx8))
  refine Plan.start (fun W => W.cell? ⟨w.heap.size, 3, none⟩ = some (.slice (some ⟨g7, 0, none⟩) n c7)) [(0, true), (1, true), (2, true), (3, true), (4, true), (5, true), (6, false), (7, true), (8, true)] (by kernel_rfl) (by kernel_rfl) (by kernel_rfl) (by kernel_rfl) l3 ?_
  simp only [List.map_cons, List.map_nil, List.getElem?_toArray, List.getElem?_cons_zero, List.getElem?_cons_succ]
  repeat (first | (refine Plan.take ?_ (by rfl) ?_ ?_; rotate_left; (· rintro w9 u0; go_simp; (try rw [if_neg (by omega)]); all_goals (with_reducible rfl)); simp only [Act.put, List.setIfInBounds_toArray, List.set_cons_zero, List.set_cons_succ]) | (refine Plan.pass (by rfl) ?_; simp only [Act.put, List.setIfInBounds_toArray, List.set_cons_zero, List.set_cons_succ]))
  refine Plan.call (by rfl) 8 _ ?_ (HJ.out _) ?_
  · go_simp
  rintro e w8' ⟨rfl, rfl⟩
  refine ⟨_, rfl, l3, ?_⟩
  simp only [Act.put, List.setIfInBounds_toArray, List.set_cons_zero, List.set_cons_succ]
  repeat (first | (refine Plan.take ?_ (by rfl) ?_ ?_; rotate_left; (· rintro w9 u0; go_simp; (try rw [if_neg (by omega)]); all_goals (with_reducible rfl)); simp only [Act.put, List.setIfInBounds_toArray, List.set_cons_zero, List.set_cons_succ]) | (refine Plan.pass (by rfl) ?_; simp only [Act.put, List.setIfInBounds_toArray, List.set_cons_zero, List.set_cons_succ]))
  refine Plan.ends ?_
  obtain ⟨z, hzk⟩ := zone_of (D := ⟨size, op, act, Z⟩) (k := j) (by show j < Z.length; omega)
  have hzk : Z[j]? = some z := hzk
  have hx9 : w8.drew.heap[w.heap.size]? = some (devRow size op act (some ⟨g7, 0, none⟩) n c7) := hx8
  have hr9 : w8.drew.heap[w.heap.size + 1]? = some (devRow 0 0 0 none 0 0) := hr8
  have b9 := b8.drew
  have O9 : w8.drew.ownsRow w3.heap.size 69 3 (.slice (some ⟨g7, 0, none⟩) n c7) n C := O8
  have Z9 := ((HC1.out.mono (G := fun b => F b ∧ b < w.heap.size) (fun b hb h => ⟨h, hb⟩)).on (show Agree (fun b => F b ∧ b < w.heap.size) w w8.drew from ⟨b9.size, fun b _ hlt => b9.block b hlt⟩)).mono (G := (fun b => b ≠ w.heap.size + 1 ∧ b ≠ g7 ∧ b ≠ w.heap.size ∧ Plus F w.heap.size b)) (fun b _ h => ⟨by have := h.2; omega, by have := h.2; omega, by have := h.2; omega, .inl h.1⟩)
  have hglo : w.heap.size ≤ g7 := by omega
  have hGF : ∀ b, (fun b => b ≠ w.heap.size + 1 ∧ b ≠ g7 ∧ b ≠ w.heap.size ∧ Plus F w.heap.size b) b → Plus F w.heap.size b := fun b h => h.2.2.2
  have hgne : g7 ≠ w.heap.size + 1 := by omega
  have hgnw : g7 ≠ w.heap.size := by omega
  clear hx8 hr8 b8 O8 l0 l1 l2 l3 HC1 HC2 HC3 hz
  generalize w8.drew = w9 at hx9 hr9 b9 O9 Z9 ⊢
  generalize w3.heap.size = B at O9
  obtain ⟨v9, l0, l1, l2, l3⟩ := row4 hx9
  obtain ⟨e0, e1, ⟨sa, sl, sc, e2, hss⟩, f0, f1, f2⟩ := odd_cells O9 Z9 hzk
  have g0 := row_free hx9 0
  have g1 := row_free hx9 1
  have g2 := row_free hx9 2
  have g3 := row_free hx9 3
  have hfin : ¬ (fun b => b ≠ w.heap.size + 1 ∧ b ≠ g7 ∧ b ≠ w.heap.size ∧ Plus F w.heap.size b) (w.heap.size + 1) := fun h => h.1 rfl
  have hlt9 : g7 < w9.heap.size := (O9.lt g7 rfl).2
  have hsl := hss.1.length
  have hslm : sl ≤ 1000000 := by have := HCK.out _ _ hzk; omega
  rcases (by omega : kd = 0 ∨ kd = 1 ∨ kd = 2 ∨ kd = 3 ∨ kd = 4 ∨ kd = 5 ∨ kd = 6 ∨ kd = 7 ∨ kd = 8) with rfl | rfl | rfl | rfl | rfl | rfl | rfl | rfl | rfl
  · go_wp2_with (first
      | (go_at_call 8; ((with_reducible refine (HK.out _).mono ?_); rintro e wk ⟨rfl, rfl⟩; clear HK))
      | (go_at_call 8; ((with_reducible refine (H8.out _).mono ?_); rintro e wk ⟨rfl, rfl⟩))
      | ((with_reducible refine store_int_lit 3 (.tmp 37) _ g7 (j * 3) .i64 (wrap64 (m8 - 1)) ?_ ?_ ⟨_, e0⟩ f0 int_info1 ?_); (· rfl); (· rfl); simp only [Act.put]; have hx10 := (Below.heap_setCell w9 ⟨g7, j * 3, none⟩ (.int .i64 (wrap64 (m8 - 1))) w.heap.size (by show w.heap.size ≠ g7; omega)).trans hx9; have hr10 := (Below.heap_setCell w9 ⟨g7, j * 3, none⟩ (.int .i64 (wrap64 (m8 - 1))) (w.heap.size + 1) (by show w.heap.size + 1 ≠ g7; omega)).trans hr9; have b10 := b9.setCell (show w.heap.size ≤ (⟨g7, j * 3, none⟩ : Addr).block by show w.heap.size ≤ g7; omega) (.int .i64 (wrap64 (m8 - 1))); have O10 := owns_cell O9 (j * 3) (.int .i64 (wrap64 (m8 - 1))); have Z10 := (Z9.st hzk (wrap64 (m8 - 1))).on (Agree.setCell (p := ⟨g7, j * 3, none⟩) (fun h => h.2.1 rfl) (.int .i64 (wrap64 (m8 - 1)))); generalize w9.setCell ⟨g7, j * 3, none⟩ (.int .i64 (wrap64 (m8 - 1))) = w10 at hx10 hr10 b10 O10 Z10 ⊢; clear l0 l1 l2 l3; obtain ⟨v10, l0, l1, l2, l3⟩ := row4 hx10)
      | ((with_reducible refine Plan.store_lit 29 (.tmp 8) _ (w.heap.size + 1) ?_ hr10 ?_ ?_ ?_ ?_ ?_ ?_); rotate_left; (· rfl); (· rfl); (· exact dev_info); (· rfl); (· simp [Value.oneCell']); simp only [Act.put]))
    have hend := odd_end (F := F) hGF hglo (r := w.heap.size + 1) O10 Z10 hfin hgne (by omega) b10 #[.int .i64 size, .int .i64 op, .int .i64 act, .slice (some ⟨g7, 0, none⟩) n c7]
    exact bodyPost_ret (results_cell_row rfl _ _ _ _ _ _ _ rfl (setRow_heap _ _ _ _ _ _ hr10) Try.underlying29 rfl dev_info) rfl ⟨⟨size, op, act, _⟩, _, _, _, rfl, hend.1, hend.2, hn⟩
  · go_wp2_with (first | (go_at_call 8; ((with_reducible refine (HK.out _).mono ?_); rintro e wk ⟨rfl, rfl⟩; clear HK)))
    refine Tree.start (fun _ => True) (.take 0 (.take 1 (.take 2 (.take 3 (.take 5 (.fork 4 (.only 6 (.take 7 (.take 8 (.take 9 (.take 10 (.only 11 (.done))))))) 6 (.only 4 (.take 7 (.take 8 (.take 9 (.take 10 (.only 11 (.done))))))))))))) (by kernel_rfl) (by kernel_rfl) (by kernel_rfl) (by kernel_rfl) trivial ?_
    simp only [Tree.T.map, List.getElem?_toArray, List.getElem?_cons_zero, List.getElem?_cons_succ]
    have e1d : w9.drew.cell? ⟨g7, j * 3 + 1, none⟩ = some (.int .i64 z.durable) := e1
    repeat (first | (refine Tree.take ?_ (by rfl) ?_ ?_; rotate_left; (· rintro w9 -; go_simp; (try rw [if_neg (by omega)]); all_goals (with_reducible rfl)); simp only [Act.put, List.setIfInBounds_toArray, List.set_cons_zero, List.set_cons_succ]))
    refine Tree.fork (by rfl) (by rfl) ?_ ?_
    · refine Tree.wp_make (.int .i64 z.durable) w9.drew ?_ ?_
      · go_simp
        try (with_reducible rfl)
      refine ⟨trivial, ?_⟩
      simp only [Act.put, List.setIfInBounds_toArray, List.set_cons_zero, List.set_cons_succ]
      refine Tree.only (by rfl) ?_
      refine Tree.wp_call 8 _ ?_ (H5.out _) ?_
      · go_simp
      rintro e w9' ⟨rfl, rfl⟩
      refine ⟨_, rfl, trivial, ?_⟩
      simp only [Act.put, List.setIfInBounds_toArray, List.set_cons_zero, List.set_cons_succ]
      repeat (first | (refine Tree.take ?_ (by rfl) ?_ ?_; rotate_left; (· rintro w9 -; go_simp; (try rw [if_neg (by omega)]); all_goals (with_reducible rfl)); simp only [Act.put, List.setIfInBounds_toArray, List.set_cons_zero, List.set_cons_succ]))
      refine Tree.only (by rfl) (wp_store_int 3 _ _ rfl g7 (j * 3 + 1) .i64 (IntKind.i64.wrap (IntKind.i64.wrap (z.durable + m5) - 2)) (by rfl) (by rfl) ⟨_, e1⟩ f1 int_info1 ⟨trivial, ?_⟩)
      simp only [Act.put]
      refine Tree.ends ?_
      have hx10 := (Below.heap_setCell w9.drew ⟨g7, j * 3 + 1, none⟩ (.int .i64 (IntKind.i64.wrap (IntKind.i64.wrap (z.durable + m5) - 2))) w.heap.size (by show w.heap.size ≠ g7; omega)).trans hx9
      have hr10 := (Below.heap_setCell w9.drew ⟨g7, j * 3 + 1, none⟩ (.int .i64 (IntKind.i64.wrap (IntKind.i64.wrap (z.durable + m5) - 2))) (w.heap.size + 1) (by show w.heap.size + 1 ≠ g7; omega)).trans hr9
      have b10 := b9.drew.setCell (show w.heap.size ≤ (⟨g7, j * 3 + 1, none⟩ : Addr).block by show w.heap.size ≤ g7; omega) (.int .i64 (IntKind.i64.wrap (IntKind.i64.wrap (z.durable + m5) - 2)))
      have O10 := owns_cell (w := w9.drew) O9 (j * 3 + 1) (.int .i64 (IntKind.i64.wrap (IntKind.i64.wrap (z.durable + m5) - 2)))
      have Z10 := ((Z9.du hzk (IntKind.i64.wrap (IntKind.i64.wrap (z.durable + m5) - 2))).on (Agree.below (Below.refl w9.heap.size w9).drew)).on (Agree.setCell (p := ⟨g7, j * 3 + 1, none⟩) (fun h => h.2.1 rfl) (.int .i64 (IntKind.i64.wrap (IntKind.i64.wrap (z.durable + m5) - 2))))
      generalize w9.drew.setCell ⟨g7, j * 3 + 1, none⟩ (.int .i64 (IntKind.i64.wrap (IntKind.i64.wrap (z.durable + m5) - 2))) = w10 at hx10 hr10 b10 O10 Z10 ⊢
      clear l0 l1 l2 l3 e0 e1 e2
      obtain ⟨v10, l0, l1, l2, l3⟩ := row4 hx10
      go_wp2_with (first | ((with_reducible refine Plan.store_lit 29 (.tmp 8) _ (w.heap.size + 1) ?_ hr10 ?_ ?_ ?_ ?_ ?_ ?_); rotate_left; (· rfl); (· rfl); (· exact dev_info); (· rfl); (· simp [Value.oneCell']); simp only [Act.put]))
      have hend := odd_end (F := F) hGF hglo (r := w.heap.size + 1) O10 Z10 hfin hgne (by omega) b10 #[.int .i64 size, .int .i64 op, .int .i64 act, .slice (some ⟨g7, 0, none⟩) n c7]
      exact bodyPost_ret (results_cell_row rfl _ _ _ _ _ _ _ rfl (setRow_heap _ _ _ _ _ _ hr10) Try.underlying29 rfl dev_info) rfl ⟨⟨size, op, act, _⟩, _, _, _, rfl, hend.1, hend.2, hn⟩
    · refine Tree.wp_call 8 _ ?_ (H5.out _) ?_
      · go_simp
      rintro e w9' ⟨rfl, rfl⟩
      refine ⟨_, rfl, trivial, ?_⟩
      simp only [Act.put, List.setIfInBounds_toArray, List.set_cons_zero, List.set_cons_succ]
      refine Tree.only (by rfl) ?_
      refine Tree.wp_make (.int .i64 z.durable) w9.drew ?_ ?_
      · go_simp
        try (with_reducible rfl)
      refine ⟨trivial, ?_⟩
      simp only [Act.put, List.setIfInBounds_toArray, List.set_cons_zero, List.set_cons_succ]
      repeat (first | (refine Tree.take ?_ (by rfl) ?_ ?_; rotate_left; (· rintro w9 -; go_simp; (try rw [if_neg (by omega)]); all_goals (with_reducible rfl)); simp only [Act.put, List.setIfInBounds_toArray, List.set_cons_zero, List.set_cons_succ]))
      refine Tree.only (by rfl) (wp_store_int 3 _ _ rfl g7 (j * 3 + 1) .i64 (IntKind.i64.wrap (IntKind.i64.wrap (z.durable + m5) - 2)) (by rfl) (by rfl) ⟨_, e1⟩ f1 int_info1 ⟨trivial, ?_⟩)
      simp only [Act.put]
      refine Tree.ends ?_
      have hx10 := (Below.heap_setCell w9.drew ⟨g7, j * 3 + 1, none⟩ (.int .i64 (IntKind.i64.wrap (IntKind.i64.wrap (z.durable + m5) - 2))) w.heap.size (by show w.heap.size ≠ g7; omega)).trans hx9
      have hr10 := (Below.heap_setCell w9.drew ⟨g7, j * 3 + 1, none⟩ (.int .i64 (IntKind.i64.wrap (IntKind.i64.wrap (z.durable + m5) - 2))) (w.heap.size + 1) (by show w.heap.size + 1 ≠ g7; omega)).trans hr9
      have b10 := b9.drew.setCell (show w.heap.size ≤ (⟨g7, j * 3 + 1, none⟩ : Addr).block by show w.heap.size ≤ g7; omega) (.int .i64 (IntKind.i64.wrap (IntKind.i64.wrap (z.durable + m5) - 2)))
      have O10 := owns_cell (w := w9.drew) O9 (j * 3 + 1) (.int .i64 (IntKind.i64.wrap (IntKind.i64.wrap (z.durable + m5) - 2)))
      have Z10 := ((Z9.du hzk (IntKind.i64.wrap (IntKind.i64.wrap (z.durable + m5) - 2))).on (Agree.below (Below.refl w9.heap.size w9).drew)).on (Agree.setCell (p := ⟨g7, j * 3 + 1, none⟩) (fun h => h.2.1 rfl) (.int .i64 (IntKind.i64.wrap (IntKind.i64.wrap (z.durable + m5) - 2))))
      generalize w9.drew.setCell ⟨g7, j * 3 + 1, none⟩ (.int .i64 (IntKind.i64.wrap (IntKind.i64.wrap (z.durable + m5) - 2))) = w10 at hx10 hr10 b10 O10 Z10 ⊢
      clear l0 l1 l2 l3 e0 e1 e2
      obtain ⟨v10, l0, l1, l2, l3⟩ := row4 hx10
      go_wp2_with (first | ((with_reducible refine Plan.store_lit 29 (.tmp 8) _ (w.heap.size + 1) ?_ hr10 ?_ ?_ ?_ ?_ ?_ ?_); rotate_left; (· rfl); (· rfl); (· exact dev_info); (· rfl); (· simp [Value.oneCell']); simp only [Act.put]))
      have hend := odd_end (F := F) hGF hglo (r := w.heap.size + 1) O10 Z10 hfin hgne (by omega) b10 #[.int .i64 size, .int .i64 op, .int .i64 act, .slice (some ⟨g7, 0, none⟩) n c7]
      exact bodyPost_ret (results_cell_row rfl _ _ _ _ _ _ _ rfl (setRow_heap _ _ _ _ _ _ hr10) Try.underlying29 rfl dev_info) rfl ⟨⟨size, op, act, _⟩, _, _, _, rfl, hend.1, hend.2, hn⟩
  · have hsm : ∀ t ∈ z.sectors ++ [(⟨#[120]⟩ : ByteArray)], t.size ≤ maxLen := by
      intro t ht
      rcases List.mem_append.1 ht with h | h
      · exact strs_small hss.1 t h
      · obtain rfl : t = ⟨#[120]⟩ := by simpa using h
        unfold maxLen; decide
    go_wp2_with (first
      | (go_at_call 8; ((with_reducible refine (HK.out _).mono ?_); rintro e wk ⟨rfl, rfl⟩; clear HK))
      | (at_builtin; have E0 := strs_empty w9 (H := w9.heap.size) rfl; have c4 := (Below.refl w9.heap.size w9).alloc (Nat.le_refl _) (.cells #[] 9); refine append_list rfl _ _ rfl w9.heap.size (.slice (some ⟨w9.heap.size, 0, none⟩) 0 0) rfl E0 sa sl sc z.sectors rfl (hss.1.on c4 (Nat.le_refl _)) hslm (by simp only [World.size_alloc]; omega) ?_; intro v5 w5 hown5 hgrow5; have c5 := below_grow c4 E0 (Nat.le_refl _) (by simp only [World.size_alloc]; omega) hgrow5; have hx5 := row_on c5 hx9 (lt_of_block hx9); have own6 := Lib.hid (owns_on hown5 ((Below.refl _ _).alloc (Nat.le_refl _) (.cells #[.string ⟨#[120]⟩] 9))); clear E0 hown5 hgrow5)
      | (at_builtin; have m5 := c5.size; refine append_one rfl _ _ rfl w9.heap.size v5 sl z.sectors rfl own6.out w5.heap.size ⟨#[120]⟩ rfl (cell_of_row _ _ 0 _ _ _ (heap_alloc_new w5 _)) hslm (by simp only [World.size_alloc]; omega) ?_; intro v7' w10 hown7 hgrow7; obtain ⟨g10, c10, rfl, hg10, hl10⟩ := owned_some hown7 (by omega); have c7' := below_grow (c5.alloc c5.size (.cells #[.string ⟨#[120]⟩] 9)) own6.out (Nat.le_refl _) (by simp only [World.size_alloc]; omega) hgrow7; have hx10 := row_on c7' hx9 (lt_of_block hx9); have hr10 := row_on c7' hr9 (lt_of_block hr9); have b10 := b9.trans (c7'.mono b9.size); have O10 := zowns_on O9 c7'; have Z10 := Z9.on (Agree.below c7'); have S10 := strsIn_own (F := (fun b => b ≠ w.heap.size + 1 ∧ b ≠ g7 ∧ b ≠ w.heap.size ∧ Plus F w.heap.size b)) hown7 hsm ⟨by omega, by omega, by omega, .inr (by omega)⟩; obtain ⟨t0, t1, ⟨ua, ul, uc, t2, -⟩, r0, r1, r2⟩ := odd_cells O10 Z10 hzk; clear hown7 hgrow7)
      | ((with_reducible refine store_slice_lit 67 (.tmp 63) _ g7 (j * 3 + 2) (some ⟨g10, 0, none⟩) (sl + 1) c10 ?_ ?_ ⟨_, t2⟩ r2 str_slice_info1 ?_); (· rfl); (· rfl); simp only [Act.put]; have hx11 := (Below.heap_setCell w10 ⟨g7, j * 3 + 2, none⟩ (.slice (some ⟨g10, 0, none⟩) (sl + 1) c10) w.heap.size (by show w.heap.size ≠ g7; omega)).trans hx10; have hr11 := (Below.heap_setCell w10 ⟨g7, j * 3 + 2, none⟩ (.slice (some ⟨g10, 0, none⟩) (sl + 1) c10) (w.heap.size + 1) (by show w.heap.size + 1 ≠ g7; omega)).trans hr10; have b11 := b10.setCell (show w.heap.size ≤ (⟨g7, j * 3 + 2, none⟩ : Addr).block by show w.heap.size ≤ g7; omega) (.slice (some ⟨g10, 0, none⟩) (sl + 1) c10); have O11 := owns_cell O10 (j * 3 + 2) (.slice (some ⟨g10, 0, none⟩) (sl + 1) c10); have Z11 := (Z10.se hzk S10).on (Agree.setCell (p := ⟨g7, j * 3 + 2, none⟩) (fun h => h.2.1 rfl) (.slice (some ⟨g10, 0, none⟩) (sl + 1) c10)); generalize w10.setCell ⟨g7, j * 3 + 2, none⟩ (.slice (some ⟨g10, 0, none⟩) (sl + 1) c10) = w11 at hx11 hr11 b11 O11 Z11 ⊢; clear l0 l1 l2 l3 t0 t1 t2; obtain ⟨v11, l0, l1, l2, l3⟩ := row4 hx11)
      | ((with_reducible refine Plan.store_lit 29 (.tmp 8) _ (w.heap.size + 1) ?_ hr11 ?_ ?_ ?_ ?_ ?_ ?_); rotate_left; (· rfl); (· rfl); (· exact dev_info); (· rfl); (· simp [Value.oneCell']); simp only [Act.put]))
    have hend := odd_end (F := F) hGF hglo (r := w.heap.size + 1) O11 Z11 hfin hgne (by omega) b11 #[.int .i64 size, .int .i64 op, .int .i64 act, .slice (some ⟨g7, 0, none⟩) n c7]
    exact bodyPost_ret (results_cell_row rfl _ _ _ _ _ _ _ rfl (setRow_heap _ _ _ _ _ _ hr11) Try.underlying29 rfl dev_info) rfl ⟨⟨size, op, act, _⟩, _, _, _, rfl, hend.1, hend.2, hn⟩
  · go_wp2_with (first | (go_at_call 8; ((with_reducible refine (HK.out _).mono ?_); rintro e wk ⟨rfl, rfl⟩; clear HK)))
    refine Tree.start (fun _ => True) (.take 0 (.take 2 (.fork 1 (.only 3 (.take 4 (.take 5 (.take 6 (.only 7 (.done)))))) 3 (.only 1 (.take 4 (.take 5 (.take 6 (.only 7 (.done))))))))) (by kernel_rfl) (by kernel_rfl) (by kernel_rfl) (by kernel_rfl) trivial ?_
    simp only [Tree.T.map, List.getElem?_toArray, List.getElem?_cons_zero, List.getElem?_cons_succ]
    have l0d : w9.drew.cell? ⟨w.heap.size, 0, none⟩ = some (.int .i64 size) := l0
    repeat (first | (refine Tree.take ?_ (by rfl) ?_ ?_; rotate_left; (· rintro w9 -; go_simp; (try rw [if_neg (by omega)]); all_goals (with_reducible rfl)); simp only [Act.put, List.setIfInBounds_toArray, List.set_cons_zero, List.set_cons_succ]))
    refine Tree.fork (by rfl) (by rfl) ?_ ?_
    · refine Tree.wp_make (.int .i64 size) w9.drew ?_ ?_
      · go_simp
        try (with_reducible rfl)
      refine ⟨trivial, ?_⟩
      simp only [Act.put, List.setIfInBounds_toArray, List.set_cons_zero, List.set_cons_succ]
      refine Tree.only (by rfl) ?_
      refine Tree.wp_call 8 _ ?_ (H5.out _) ?_
      · go_simp
      rintro e w9' ⟨rfl, rfl⟩
      refine ⟨_, rfl, trivial, ?_⟩
      simp only [Act.put, List.setIfInBounds_toArray, List.set_cons_zero, List.set_cons_succ]
      repeat (first | (refine Tree.take ?_ (by rfl) ?_ ?_; rotate_left; (· rintro w9 -; go_simp; (try rw [if_neg (by omega)]); all_goals (with_reducible rfl)); simp only [Act.put, List.setIfInBounds_toArray, List.set_cons_zero, List.set_cons_succ]))
      refine Tree.only (by rfl) (wp_store_int 3 _ _ rfl w.heap.size 0 .i64 (IntKind.i64.wrap (IntKind.i64.wrap (size + m5) - 2)) (by rfl) (by rfl) ⟨_, l0⟩ g0 int_info1 ⟨trivial, ?_⟩)
      simp only [Act.put]
      refine Tree.ends ?_
      have hx10 : (w9.drew.setCell ⟨w.heap.size, 0, none⟩ (.int .i64 (IntKind.i64.wrap (IntKind.i64.wrap (size + m5) - 2)))).heap[w.heap.size]? = some (devRow (IntKind.i64.wrap (IntKind.i64.wrap (size + m5) - 2)) op act (some ⟨g7, 0, none⟩) n c7) := setCell_row (w := w9.drew) hx9 0 (.int .i64 (IntKind.i64.wrap (IntKind.i64.wrap (size + m5) - 2)))
      have hr10 := (Below.heap_setCell w9.drew ⟨w.heap.size, 0, none⟩ (.int .i64 (IntKind.i64.wrap (IntKind.i64.wrap (size + m5) - 2))) (w.heap.size + 1) (by show w.heap.size + 1 ≠ w.heap.size; omega)).trans hr9
      have b10 := b9.drew.setCell (show w.heap.size ≤ (⟨w.heap.size, 0, none⟩ : Addr).block from Nat.le_refl _) (.int .i64 (IntKind.i64.wrap (IntKind.i64.wrap (size + m5) - 2)))
      have O10 := ownsRow_setCell_other (w := w9.drew) O9 (a := ⟨w.heap.size, 0, none⟩) (fun e => by have := Option.some.inj (show some g7 = some w.heap.size from e); omega) (.int .i64 (IntKind.i64.wrap (IntKind.i64.wrap (size + m5) - 2)))
      have Z10 := (Z9.on (Agree.below (Below.refl w9.heap.size w9).drew)).on (Agree.setCell (p := ⟨w.heap.size, 0, none⟩) (fun h => h.2.2.1 rfl) (.int .i64 (IntKind.i64.wrap (IntKind.i64.wrap (size + m5) - 2))))
      generalize w9.drew.setCell ⟨w.heap.size, 0, none⟩ (.int .i64 (IntKind.i64.wrap (IntKind.i64.wrap (size + m5) - 2))) = w10 at hx10 hr10 b10 O10 Z10 ⊢
      generalize IntKind.i64.wrap (IntKind.i64.wrap (size + m5) - 2) = V at hx10 ⊢
      clear l0 l1 l2 l3
      obtain ⟨v10, l0, l1, l2, l3⟩ := row4 hx10
      go_wp2_with (first | ((with_reducible refine Plan.store_lit 29 (.tmp 8) _ (w.heap.size + 1) ?_ hr10 ?_ ?_ ?_ ?_ ?_ ?_); rotate_left; (· rfl); (· rfl); (· exact dev_info); (· rfl); (· simp [Value.oneCell']); simp only [Act.put]))
      have hend := odd_end (F := F) hGF hglo (r := w.heap.size + 1) O10 Z10 hfin hgne (by omega) b10 #[.int .i64 (V), .int .i64 op, .int .i64 act, .slice (some ⟨g7, 0, none⟩) n c7]
      exact bodyPost_ret (results_cell_row rfl _ _ _ _ _ _ _ rfl (setRow_heap _ _ _ _ _ _ hr10) Try.underlying29 rfl dev_info) rfl ⟨⟨V, op, act, _⟩, _, _, _, rfl, hend.1, hend.2, hn⟩
    · refine Tree.wp_call 8 _ ?_ (H5.out _) ?_
      · go_simp
      rintro e w9' ⟨rfl, rfl⟩
      refine ⟨_, rfl, trivial, ?_⟩
      simp only [Act.put, List.setIfInBounds_toArray, List.set_cons_zero, List.set_cons_succ]
      refine Tree.only (by rfl) ?_
      refine Tree.wp_make (.int .i64 size) w9.drew ?_ ?_
      · go_simp
        try (with_reducible rfl)
      refine ⟨trivial, ?_⟩
      simp only [Act.put, List.setIfInBounds_toArray, List.set_cons_zero, List.set_cons_succ]
      repeat (first | (refine Tree.take ?_ (by rfl) ?_ ?_; rotate_left; (· rintro w9 -; go_simp; (try rw [if_neg (by omega)]); all_goals (with_reducible rfl)); simp only [Act.put, List.setIfInBounds_toArray, List.set_cons_zero, List.set_cons_succ]))
      refine Tree.only (by rfl) (wp_store_int 3 _ _ rfl w.heap.size 0 .i64 (IntKind.i64.wrap (IntKind.i64.wrap (size + m5) - 2)) (by rfl) (by rfl) ⟨_, l0⟩ g0 int_info1 ⟨trivial, ?_⟩)
      simp only [Act.put]
      refine Tree.ends ?_
      have hx10 : (w9.drew.setCell ⟨w.heap.size, 0, none⟩ (.int .i64 (IntKind.i64.wrap (IntKind.i64.wrap (size + m5) - 2)))).heap[w.heap.size]? = some (devRow (IntKind.i64.wrap (IntKind.i64.wrap (size + m5) - 2)) op act (some ⟨g7, 0, none⟩) n c7) := setCell_row (w := w9.drew) hx9 0 (.int .i64 (IntKind.i64.wrap (IntKind.i64.wrap (size + m5) - 2)))
      have hr10 := (Below.heap_setCell w9.drew ⟨w.heap.size, 0, none⟩ (.int .i64 (IntKind.i64.wrap (IntKind.i64.wrap (size + m5) - 2))) (w.heap.size + 1) (by show w.heap.size + 1 ≠ w.heap.size; omega)).trans hr9
      have b10 := b9.drew.setCell (show w.heap.size ≤ (⟨w.heap.size, 0, none⟩ : Addr).block from Nat.le_refl _) (.int .i64 (IntKind.i64.wrap (IntKind.i64.wrap (size + m5) - 2)))
      have O10 := ownsRow_setCell_other (w := w9.drew) O9 (a := ⟨w.heap.size, 0, none⟩) (fun e => by have := Option.some.inj (show some g7 = some w.heap.size from e); omega) (.int .i64 (IntKind.i64.wrap (IntKind.i64.wrap (size + m5) - 2)))
      have Z10 := (Z9.on (Agree.below (Below.refl w9.heap.size w9).drew)).on (Agree.setCell (p := ⟨w.heap.size, 0, none⟩) (fun h => h.2.2.1 rfl) (.int .i64 (IntKind.i64.wrap (IntKind.i64.wrap (size + m5) - 2))))
      generalize w9.drew.setCell ⟨w.heap.size, 0, none⟩ (.int .i64 (IntKind.i64.wrap (IntKind.i64.wrap (size + m5) - 2))) = w10 at hx10 hr10 b10 O10 Z10 ⊢
      generalize IntKind.i64.wrap (IntKind.i64.wrap (size + m5) - 2) = V at hx10 ⊢
      clear l0 l1 l2 l3
      obtain ⟨v10, l0, l1, l2, l3⟩ := row4 hx10
      go_wp2_with (first | ((with_reducible refine Plan.store_lit 29 (.tmp 8) _ (w.heap.size + 1) ?_ hr10 ?_ ?_ ?_ ?_ ?_ ?_); rotate_left; (· rfl); (· rfl); (· exact dev_info); (· rfl); (· simp [Value.oneCell']); simp only [Act.put]))
      have hend := odd_end (F := F) hGF hglo (r := w.heap.size + 1) O10 Z10 hfin hgne (by omega) b10 #[.int .i64 (V), .int .i64 op, .int .i64 act, .slice (some ⟨g7, 0, none⟩) n c7]
      exact bodyPost_ret (results_cell_row rfl _ _ _ _ _ _ _ rfl (setRow_heap _ _ _ _ _ _ hr10) Try.underlying29 rfl dev_info) rfl ⟨⟨V, op, act, _⟩, _, _, _, rfl, hend.1, hend.2, hn⟩

  · go_wp2_with (first
      | (go_at_call 8; ((with_reducible refine (HK.out _).mono ?_); rintro e wk ⟨rfl, rfl⟩; clear HK))
      | (go_at_call 8; ((with_reducible refine (H5.out _).mono ?_); rintro e wk ⟨rfl, rfl⟩))
      | ((with_reducible refine store_int_lit 3 (.tmp 77) _ w.heap.size 1 .i64 m5 ?_ ?_ ⟨_, l1⟩ g1 int_info1 ?_); (· rfl); (· rfl); simp only [Act.put]; have hx10 : (w9.setCell ⟨w.heap.size, 1, none⟩ (.int .i64 m5)).heap[w.heap.size]? = some (devRow size m5 act (some ⟨g7, 0, none⟩) n c7) := setCell_row hx9 1 (.int .i64 m5); have hr10 := (Below.heap_setCell w9 ⟨w.heap.size, 1, none⟩ (.int .i64 m5) (w.heap.size + 1) (by show w.heap.size + 1 ≠ w.heap.size; omega)).trans hr9; have b10 := b9.setCell (show w.heap.size ≤ (⟨w.heap.size, 1, none⟩ : Addr).block from Nat.le_refl _) (.int .i64 m5); have O10 := ownsRow_setCell_other O9 (a := ⟨w.heap.size, 1, none⟩) (fun e => by have := Option.some.inj (show some g7 = some w.heap.size from e); omega) (.int .i64 m5); have Z10 := Z9.on (Agree.setCell (p := ⟨w.heap.size, 1, none⟩) (fun h => h.2.2.1 rfl) (.int .i64 m5)); generalize w9.setCell ⟨w.heap.size, 1, none⟩ (.int .i64 m5) = w10 at hx10 hr10 b10 O10 Z10 ⊢; clear l0 l1 l2 l3; obtain ⟨v10, l0, l1, l2, l3⟩ := row4 hx10)
      | ((with_reducible refine Plan.store_lit 29 (.tmp 8) _ (w.heap.size + 1) ?_ hr10 ?_ ?_ ?_ ?_ ?_ ?_); rotate_left; (· rfl); (· rfl); (· exact dev_info); (· rfl); (· simp [Value.oneCell']); simp only [Act.put]))
    have hend := odd_end (F := F) hGF hglo (r := w.heap.size + 1) O10 Z10 hfin hgne (by omega) b10 #[.int .i64 size, .int .i64 m5, .int .i64 act, .slice (some ⟨g7, 0, none⟩) n c7]
    exact bodyPost_ret (results_cell_row rfl _ _ _ _ _ _ _ rfl (setRow_heap _ _ _ _ _ _ hr10) Try.underlying29 rfl dev_info) rfl ⟨⟨size, m5, act, _⟩, _, _, _, rfl, hend.1, hend.2, hn⟩
  · go_wp2_with (first
      | (go_at_call 8; ((with_reducible refine (HK.out _).mono ?_); rintro e wk ⟨rfl, rfl⟩; clear HK))
      | (go_at_call 8; ((with_reducible refine (H6.out _).mono ?_); rintro e wk ⟨rfl, rfl⟩))
      | ((with_reducible refine store_int_lit 3 (.tmp 82) _ w.heap.size 2 .i64 m6 ?_ ?_ ⟨_, l2⟩ g2 int_info1 ?_); (· rfl); (· rfl); simp only [Act.put]; have hx10 : (w9.setCell ⟨w.heap.size, 2, none⟩ (.int .i64 m6)).heap[w.heap.size]? = some (devRow size op m6 (some ⟨g7, 0, none⟩) n c7) := setCell_row hx9 2 (.int .i64 m6); have hr10 := (Below.heap_setCell w9 ⟨w.heap.size, 2, none⟩ (.int .i64 m6) (w.heap.size + 1) (by show w.heap.size + 1 ≠ w.heap.size; omega)).trans hr9; have b10 := b9.setCell (show w.heap.size ≤ (⟨w.heap.size, 2, none⟩ : Addr).block from Nat.le_refl _) (.int .i64 m6); have O10 := ownsRow_setCell_other O9 (a := ⟨w.heap.size, 2, none⟩) (fun e => by have := Option.some.inj (show some g7 = some w.heap.size from e); omega) (.int .i64 m6); have Z10 := Z9.on (Agree.setCell (p := ⟨w.heap.size, 2, none⟩) (fun h => h.2.2.1 rfl) (.int .i64 m6)); generalize w9.setCell ⟨w.heap.size, 2, none⟩ (.int .i64 m6) = w10 at hx10 hr10 b10 O10 Z10 ⊢; clear l0 l1 l2 l3; obtain ⟨v10, l0, l1, l2, l3⟩ := row4 hx10)
      | ((with_reducible refine Plan.store_lit 29 (.tmp 8) _ (w.heap.size + 1) ?_ hr10 ?_ ?_ ?_ ?_ ?_ ?_); rotate_left; (· rfl); (· rfl); (· exact dev_info); (· rfl); (· simp [Value.oneCell']); simp only [Act.put]))
    have hend := odd_end (F := F) hGF hglo (r := w.heap.size + 1) O10 Z10 hfin hgne (by omega) b10 #[.int .i64 size, .int .i64 op, .int .i64 m6, .slice (some ⟨g7, 0, none⟩) n c7]
    exact bodyPost_ret (results_cell_row rfl _ _ _ _ _ _ _ rfl (setRow_heap _ _ _ _ _ _ hr10) Try.underlying29 rfl dev_info) rfl ⟨⟨size, op, m6, _⟩, _, _, _, rfl, hend.1, hend.2, hn⟩
  · go_wp2_with (first
      | (go_at_call 8; ((with_reducible refine (HK.out _).mono ?_); rintro e wk ⟨rfl, rfl⟩; clear HK))
      | ((with_reducible refine store_slice_lit 27 (.tmp 85) _ w.heap.size 3 none 0 0 ?_ ?_ ⟨_, l3⟩ g3 zone_slice_info1 ?_); (· rfl); (· rfl); simp only [Act.put]; have hx10 : (w9.setCell ⟨w.heap.size, 3, none⟩ (.slice none 0 0)).heap[w.heap.size]? = some (devRow size op act none 0 0) := setCell_row hx9 3 (.slice none 0 0); have hr10 := (Below.heap_setCell w9 ⟨w.heap.size, 3, none⟩ (.slice none 0 0) (w.heap.size + 1) (by show w.heap.size + 1 ≠ w.heap.size; omega)).trans hr9; have b10 := b9.setCell (show w.heap.size ≤ (⟨w.heap.size, 3, none⟩ : Addr).block from Nat.le_refl _) (.slice none 0 0); generalize w9.setCell ⟨w.heap.size, 3, none⟩ (.slice none 0 0) = w10 at hx10 hr10 b10 ⊢; clear l0 l1 l2 l3; obtain ⟨v10, l0, l1, l2, l3⟩ := row4 hx10)
      | ((with_reducible refine Plan.store_lit 29 (.tmp 8) _ (w.heap.size + 1) ?_ hr10 ?_ ?_ ?_ ?_ ?_ ?_); rotate_left; (· rfl); (· rfl); (· exact dev_info); (· rfl); (· simp [Value.oneCell']); simp only [Act.put]))
    exact bodyPost_ret (results_cell_row rfl _ _ _ _ _ _ _ rfl (setRow_heap _ _ _ _ _ _ hr10) Try.underlying29 rfl dev_info) rfl ⟨⟨size, op, act, []⟩, none, 0, 0, rfl, .inl ⟨rfl, rfl, rfl, rfl⟩, below_setRow b10 (by omega) _, by omega⟩
  · have hz9k := hzk
    go_wp2_with (first
      | (go_at_call 8; ((with_reducible refine (HK.out _).mono ?_); rintro e wk ⟨rfl, rfl⟩; clear HK))
      | ((with_reducible refine store_int_lit 3 (.tmp 92) _ g7 (j * 3) .i64 5 ?_ ?_ ⟨_, e0⟩ f0 int_info1 ?_); (· rfl); (· rfl); simp only [Act.put]; have hx10 := (Below.heap_setCell w9 ⟨g7, j * 3, none⟩ (.int .i64 5) w.heap.size (by show w.heap.size ≠ g7; omega)).trans hx9; have hr10 := (Below.heap_setCell w9 ⟨g7, j * 3, none⟩ (.int .i64 5) (w.heap.size + 1) (by show w.heap.size + 1 ≠ g7; omega)).trans hr9; have b10 := b9.setCell (show w.heap.size ≤ (⟨g7, j * 3, none⟩ : Addr).block by show w.heap.size ≤ g7; omega) (.int .i64 5); have O10 := owns_cell O9 (j * 3) (.int .i64 5); have Z10 := (Z9.st hz9k 5).on (Agree.setCell (p := ⟨g7, j * 3, none⟩) (fun h => h.2.1 rfl) (.int .i64 5)); generalize w9.setCell ⟨g7, j * 3, none⟩ (.int .i64 5) = w10 at hx10 hr10 b10 O10 Z10 ⊢; have hz10k := set_at (y := ⟨5, z.durable, z.sectors⟩) hz9k; obtain ⟨s0, s1, ⟨sa, sl, sc, s2, -⟩, sf0, sf1, sf2⟩ := odd_cells O10 Z10 hz10k; clear l0 l1 l2 l3; obtain ⟨v10, l0, l1, l2, l3⟩ := row4 hx10)
      | ((with_reducible refine store_slice_lit 67 (.tmp 94) _ g7 (j * 3 + 2) none 0 0 ?_ ?_ ⟨_, s2⟩ sf2 str_slice_info1 ?_); (· rfl); (· rfl); simp only [Act.put]; have hx11 := (Below.heap_setCell w10 ⟨g7, j * 3 + 2, none⟩ (.slice none 0 0) w.heap.size (by show w.heap.size ≠ g7; omega)).trans hx10; have hr11 := (Below.heap_setCell w10 ⟨g7, j * 3 + 2, none⟩ (.slice none 0 0) (w.heap.size + 1) (by show w.heap.size + 1 ≠ g7; omega)).trans hr10; have b11 := b10.setCell (show w.heap.size ≤ (⟨g7, j * 3 + 2, none⟩ : Addr).block by show w.heap.size ≤ g7; omega) (.slice none 0 0); have O11 := owns_cell O10 (j * 3 + 2) (.slice none 0 0); have Z11 := (Z10.se (L := []) hz10k (empty_in _ _)).on (Agree.setCell (p := ⟨g7, j * 3 + 2, none⟩) (fun h => h.2.1 rfl) (.slice none 0 0)); generalize w10.setCell ⟨g7, j * 3 + 2, none⟩ (.slice none 0 0) = w11 at hx11 hr11 b11 O11 Z11 ⊢; have hz11k := set_at (y := ⟨5, z.durable, []⟩) hz10k; obtain ⟨u0, u1, ⟨ua, ul, uc, u2, -⟩, uf0, uf1, uf2⟩ := odd_cells O11 Z11 hz11k; clear l0 l1 l2 l3; obtain ⟨v11, l0, l1, l2, l3⟩ := row4 hx11)
      | ((with_reducible refine store_int_lit 3 (.tmp 96) _ g7 (j * 3 + 1) .i64 0 ?_ ?_ ⟨_, u1⟩ uf1 int_info1 ?_); (· rfl); (· rfl); simp only [Act.put]; have hx12 := (Below.heap_setCell w11 ⟨g7, j * 3 + 1, none⟩ (.int .i64 0) w.heap.size (by show w.heap.size ≠ g7; omega)).trans hx11; have hr12 := (Below.heap_setCell w11 ⟨g7, j * 3 + 1, none⟩ (.int .i64 0) (w.heap.size + 1) (by show w.heap.size + 1 ≠ g7; omega)).trans hr11; have b12 := b11.setCell (show w.heap.size ≤ (⟨g7, j * 3 + 1, none⟩ : Addr).block by show w.heap.size ≤ g7; omega) (.int .i64 0); have O12 := owns_cell O11 (j * 3 + 1) (.int .i64 0); have Z12 := (Z11.du hz11k 0).on (Agree.setCell (p := ⟨g7, j * 3 + 1, none⟩) (fun h => h.2.1 rfl) (.int .i64 0)); generalize w11.setCell ⟨g7, j * 3 + 1, none⟩ (.int .i64 0) = w12 at hx12 hr12 b12 O12 Z12 ⊢; clear l0 l1 l2 l3; obtain ⟨v12, l0, l1, l2, l3⟩ := row4 hx12)
      | ((with_reducible refine Plan.store_lit 29 (.tmp 8) _ (w.heap.size + 1) ?_ hr12 ?_ ?_ ?_ ?_ ?_ ?_); rotate_left; (· rfl); (· rfl); (· exact dev_info); (· rfl); (· simp [Value.oneCell']); simp only [Act.put]))
    have hend := odd_end (F := F) hGF hglo (r := w.heap.size + 1) O12 Z12 hfin hgne (by omega) b12 #[.int .i64 size, .int .i64 op, .int .i64 act, .slice (some ⟨g7, 0, none⟩) n c7]
    exact bodyPost_ret (results_cell_row rfl _ _ _ _ _ _ _ rfl (setRow_heap _ _ _ _ _ _ hr12) Try.underlying29 rfl dev_info) rfl ⟨⟨size, op, act, _⟩, _, _, _, rfl, hend.1, hend.2, hn⟩

  · go_wp2_with (first
      | (go_at_call 8; ((with_reducible refine (HK.out _).mono ?_); rintro e wk ⟨rfl, rfl⟩; clear HK))
      | ((with_reducible refine Plan.store_lit 29 (.tmp 8) _ (w.heap.size + 1) ?_ hr9 ?_ ?_ ?_ ?_ ?_ ?_); rotate_left; (· rfl); (· rfl); (· exact dev_info); (· rfl); (· simp [Value.oneCell']); simp only [Act.put]))
    have hend := odd_end (F := F) hGF hglo (r := w.heap.size + 1) O9 Z9 hfin hgne (by omega) b9 #[.int .i64 size, .int .i64 op, .int .i64 act, .slice (some ⟨g7, 0, none⟩) n c7]
    exact bodyPost_ret (results_cell_row rfl _ _ _ _ _ _ _ rfl (setRow_heap _ _ _ _ _ _ hr9) Try.underlying29 rfl dev_info) rfl ⟨⟨size, op, act, _⟩, _, _, _, rfl, hend.1, hend.2, hn⟩
theorem odd_few (D : Dev) (a : Option Addr) (n cap : Nat) (p1 p2 p3 : Int) (w : World) (hz0 : IsZones w a n cap D.zones) (hc : ∀ (i : Nat) z, D.zones[i]? = some z → z.sectors.length ≤ 1000000) (hn1 : 1 ≤ n) (hn : n ≤ 1000) :
    Calls Try.prog 10 #[devV D a n cap, .int .i64 p1, .int .i64 p2, .int .i64 p3] w (AnyDev w) := by
  refine (odd_in _ D a n cap p1 p2 p3 w (ZonesIn.of hz0) hc hn1 hn).mono ?_
  rintro e w' ⟨D', a', n', cap', h1, h2, h3, h4⟩
  exact ⟨D', a', n', cap', h1, h2.is, h3, h4⟩
end Go.Proofs.Ythhggiifbldaeaa

/- The walk of the law's made: a state with zones, counters, lanes and retired zones made of dice. -/
namespace Go.Proofs.Ythhggiifbldaeaa.Ents
open Go.RowKit Plan ZnsMath EntMath CntMath EpoMath LayMath VicMath
theorem Mk.store_int {ops : Array Oper} {rest : List Oper} {a : Act} {w : World} {Q : Exit → Act → World → Prop} (ty : TypeId) (x y : Operand) {t' : TypeId} {pos : String} {after : Array Edge}
    (b o : Nat) (k : IntKind) (n : Int) (hx : a.eval x = .pointer (some ⟨b, o, none⟩)) (hy : a.eval y = .int k n) (hc : ∃ u, w.cell? ⟨b, o, none⟩ = some u) (hf : w.frozen? ⟨b, o, none⟩ = false) (hi : (Try.prog.info? ty).map (·.size) = some 1)
    (h : wpList Try.prog ops Q rest (a.put none undef) (w.setCell ⟨b, o, none⟩ (.int k n))) : wpList Try.prog ops Q (⟨none, .store ty x y, t', pos, after, none⟩ :: rest) a w :=
  wpList_plain rfl fun _ hK => Put.wp_store_int ty x y rfl b o k n hx hy hc hf hi (hK _ _ h)
set_option maxHeartbeats 16000000 in
set_option maxRecDepth 40000 in
theorem made14_any (a0 : Option Addr) (l c0 : Nat) (zs : List Int) (w : World) (hl : IsRow .i64 w a0 l c0 zs) (hm : (l : Int) ≤ 300) :
    Calls Try.prog 7 #[.slice a0 l c0] w (MadePost w (zs.take l)) := by
  have HRL := Lib.hid (fun W (h : Below w.heap.size w W) => roll_any a0 l c0 zs W (by
    rcases hl with h9 | ⟨x, h1, h2, h3, h4, h5, h6⟩
    · exact .inl h9
    · exact .inr ⟨x, h1, h2, h3, h4, fun i hi => (h.cell (p := x.add i) (World.block_lt_of_cell? w _ (h5 i hi))).trans (h5 i hi), h6⟩) (by omega))
  unfold RollPost at HRL
  have HLL := Lib.hid (show (zs.take l).length ≤ 100000 from by rw [List.length_take]; omega)
  generalize zs.take l = LL at *
  clear hm hl
  have KR := (Bxs.start w).al (stRow st0)
  obtain ⟨n0, X0, R0, hn0, hX0, -, hz0, hs0, -, -, he0, -⟩ := small_conf LL 0
  obtain ⟨⟨s1, s2⟩, ⟨b1, b2⟩, ⟨q1, q2⟩, -, -, -⟩ := small_range LL 0
  generalize hgz : smZ LL 0 = cz at *
  generalize hgs : smS LL 0 = cs at *
  generalize hgb : smB LL 0 = cb at *
  generalize hgq : smQ LL 0 = cq at *
  generalize hgd : smD LL 0 = cd at *
  generalize hgh : smH LL 0 = ch at *
  generalize hgk : smK LL 0 = k0 at *
  obtain ⟨zn, hzn⟩ : ∃ zn : Nat, cz = (zn : Int) := ⟨cz.toNat, by omega⟩
  have hzr : 8 ≤ zn ∧ zn ≤ 14 := by omega
  clear hz0 hX0 hn0
  subst hzn
  have HNW := Lib.hid (fun W => refNew_own zn cs 3 3 W (by omega) (by omega) (new_ok (by omega) (by omega) s1 (by omega)))
  unfold DevOwn at HNW
  have HEN := Lib.hid (fun W => refENew_any cq W)
  unfold ENewPost at HEN
  go_enter Try.func7, Try.ntmps7
  go_upto_region 4 with (first
    | (go_at_call 14; ((with_reducible refine (HRL.out _ KR.hb).mono ?_); rintro r9 w1 ⟨q, rfl, hd, h9⟩; have D1 := BxD.roll KR hd h9; clear hd h9 HRL KR))
    | (go_at_call 15; ((with_reducible refine (small_any _ _ q LL 0 D1.dd HLL.out).mono ?_); rintro r9 w2 ⟨rfl, hd2, gr2⟩; unfold confV; rw [hgz, hgs, hgb, hgq, hgd, hgh]; rw [hgk] at hd2; have D2 := (D1.next hd2 gr2).al (confRow (zn : Int) cs cb cq cd ch); clear D1 hd2 gr2; generalize hC : w2.heap.size = C at *; obtain ⟨d0, d1, d2, d3, d4, d5⟩ := six_row (D2.get 0 rfl)))
    | (go_at_call 16; ((with_reducible refine (HNW.out _).mono ?_); rintro r9 w3 ⟨g, rfl, ow, h9⟩; have D3 := (D2.on h9).al (vdRow cs 3 3 (some ⟨g, 0, none⟩) zn zn); have hq9 := dice_lt D2.dd; have hgV := (ow.lt g rfl).2; have hgC := (ow.lt g rfl).1; rw [World.size_alloc, hC] at hgC; have ow3 := own_base (B' := q + 1) (e_owns_on ow ((Below.refl _ _).alloc (Nat.le_refl _) (vdRow cs 3 3 (some ⟨g, 0, none⟩) zn zn))) hq9; clear D2 hq9 h9 HNW ow d0 d1 d2 d3 d4 d5; generalize hV : w3.heap.size = V at *)))
  go_cut [7] (fun x wx => ∃ (T k9 : Nat) (k3 : Int), x = .pointer (some ⟨T, 0, none⟩) ∧ (0 ≤ k3 ∧ k3 ≤ 2) ∧ (LL = [] → k3 = 0) ∧ g < T ∧ BxD w wx (bx4 (S4 zn g cs cb cq cd ch k3) T V C w.heap.size g zn cs cb cq cd ch) (w.alloc (stRow st0)).heap.size q LL k9 ∧ wx.ownsRow (q + 1) 69 3 (.slice (some ⟨g, 0, none⟩) zn zn) zn (madeCells #[.int .i64 0, .int .i64 0, .slice none 0 0] (zn * 3)).toList)
  case first =>
    have hw1 : IntKind.i64.wrap ((zn : Int) - 1) = (zn : Int) - 1 := IntWalk.i64_in _ (by omega)
    refine Tree.start (fun W => (W.cell? ⟨C, 0, none⟩ = some (.int .i64 (zn : Int)) ∧ W.cell? ⟨C, 1, none⟩ = some (.int .i64 cs) ∧ W.cell? ⟨C, 2, none⟩ = some (.int .i64 cb) ∧ W.cell? ⟨C, 3, none⟩ = some (.int .i64 cq) ∧ W.cell? ⟨C, 4, none⟩ = some (.int .i64 cd) ∧ W.cell? ⟨C, 5, none⟩ = some (.int .i64 ch)) ∧ W.cell? ⟨V, 0, none⟩ = some (.int .i64 cs) ∧ W.cell? ⟨V, 1, none⟩ = some (.int .i64 3) ∧ W.cell? ⟨V, 2, none⟩ = some (.int .i64 3) ∧ W.cell? ⟨V, 3, none⟩ = some (.slice (some ⟨g, 0, none⟩) zn zn)) (.take 0 (.take 1 (.take 2 (.take 3 (.take 4 (.take 5 (.fork 6 (.take 7 (.take 8 (.take 9 (.only 10 (.only 11 (.done)))))) 10 (.only 6 (.take 7 (.take 8 (.take 9 (.only 11 (.done))))))))))))) (by kernel_rfl) (by kernel_rfl) (by kernel_rfl) (by kernel_rfl) (show _ from ⟨six_row (D3.drew.get 1 rfl), vd4 (D3.drew.get 0 rfl)⟩) ?_
    simp only [Tree.T.map, List.getElem?_toArray, List.getElem?_cons_zero, List.getElem?_cons_succ]
    repeat (first | (refine Tree.take ?_ (by rfl) ?_ ?_; rotate_left; (· rintro w9 ⟨⟨d0, d1, d2, d3, d4, d5⟩, e0, e1, e2, e3⟩; go_simp; (try rw [if_neg (by omega)]); all_goals (with_reducible rfl)); simp only [Act.put, List.setIfInBounds_toArray, List.set_cons_zero, List.set_cons_succ]))
    have D := D3.drew
    have ow := ow3.drew
    clear D3 ow3
    generalize (w3.alloc (vdRow cs 3 3 (some ⟨g, 0, none⟩) zn zn)).drew = W4 at *
    refine Tree.fork (by rfl) (by rfl) ?_ ?_
    · refine Tree.wp_call 17 _ ?_ (next_any _ _ _ _ _ 3 D.dd HLL.out (by omega) (by omega)) ?_
      · go_simp
      rintro r9 w9 ⟨rfl, hd, hgr, hsz⟩
      have D9 := D.next hd hgr
      have ow9 := mk_kept ow hgr (fun z hz e => by have h1 := (ow.lt z e).1; have h2 := Option.some.inj hz; omega)
      clear D ow hd hgr hsz
      have D := D9
      have ow := ow9
      clear D9 ow9
      have hk3 := nxt_range LL k0 3 (by omega)
      have hk0 : LL = [] → nxt LL k0 3 = 0 := (fun h => by rw [h]; exact nxt_none _ _)
      generalize nxt LL k0 3 = k3 at *
      have hw2 : IntKind.i64.wrap ((zn : Int) - 1 - k3) = (zn : Int) - 1 - k3 := IntWalk.i64_in _ (by omega)
      refine ⟨_, rfl, ⟨six_row (D.get 1 rfl), vd4 (D.get 0 rfl)⟩, ?_⟩
      simp only [Act.put, List.setIfInBounds_toArray, List.set_cons_zero, List.set_cons_succ]
      repeat (first | (refine Tree.take ?_ (by rfl) ?_ ?_; rotate_left; (· rintro w9 ⟨⟨d0, d1, d2, d3, d4, d5⟩, e0, e1, e2, e3⟩; go_simp; (try rw [if_neg (by omega)]); all_goals (with_reducible rfl)); simp only [Act.put, List.setIfInBounds_toArray, List.set_cons_zero, List.set_cons_succ]))
      refine Tree.only (by rfl) (Tree.wp_make (.pointer (some ⟨w9.heap.size, 0, none⟩)) (w9.alloc (stRow st0)) ?_ ⟨⟨six_row ((D.al (stRow st0)).get 2 rfl), vd4 ((D.al (stRow st0)).get 1 rfl)⟩, ?_⟩)
      · go_simp
      simp only [Act.put, List.setIfInBounds_toArray, List.set_cons_zero, List.set_cons_succ]
      have hgT := (ow.lt g rfl).2
      have D9 := D.al (stRow st0)
      have ow9 := e_owns_on ow ((Below.refl _ _).alloc (Nat.le_refl _) (stRow st0))
      generalize w9.alloc (stRow st0) = w8 at *
      generalize w9.heap.size = T at *
      clear D ow
      refine Tree.only (by rfl) (wp_store_row 58 _ _ rfl T (stArr (S4 zn g cs cb cq cd ch k3)) (by rfl) (by rfl) 58 _ (D9.get 0 rfl) st_info rfl (by simp [Value.oneCell']) ?_)
      have D := D9.put 0 rfl (B' := bx4 (S4 zn g cs cb cq cd ch k3) T V C w.heap.size g zn cs cb cq cd ch) rfl
      refine ⟨⟨six_row (D.get 2 rfl), vd4 (D.get 1 rfl)⟩, ?_⟩
      simp only [Act.put]
      refine Tree.ends ?_
      have ow := mk_kept ow9 (bxd_row _ T (stArr (S4 zn g cs cb cq cd ch k3))) (fun z hz e => by have h1 := Option.some.inj hz; have h2 := Option.some.inj (show some g = some z from e); omega)
      clear D9 ow9
      generalize World.setRow _ T (stArr (S4 zn g cs cb cq cd ch k3)) = w7 at *
      go_wp2_with fail
      go_meet
      exact ⟨T, _, k3, rfl, ⟨by omega, by omega⟩, hk0, by omega, D, ow⟩
    · refine Tree.wp_make (.pointer (some ⟨W4.heap.size, 0, none⟩)) (W4.alloc (stRow st0)) ?_ ⟨⟨six_row ((D.al (stRow st0)).get 2 rfl), vd4 ((D.al (stRow st0)).get 1 rfl)⟩, ?_⟩
      · go_simp
      simp only [Act.put, List.setIfInBounds_toArray, List.set_cons_zero, List.set_cons_succ]
      have hgT := (ow.lt g rfl).2
      have D9 := D.al (stRow st0)
      have ow9 := e_owns_on ow ((Below.refl _ _).alloc (Nat.le_refl _) (stRow st0))
      clear D ow
      have D := D9
      have ow := ow9
      clear D9 ow9
      generalize W4.alloc (stRow st0) = w8 at *
      generalize W4.heap.size = T at *
      refine Tree.only (by rfl) (Tree.wp_call 17 _ ?_ (next_any _ _ _ _ _ 3 D.dd HLL.out (by omega) (by omega)) ?_)
      · go_simp
      rintro r9 w9 ⟨rfl, hd, hgr, hsz⟩
      have D9 := D.next hd hgr
      have ow9 := mk_kept ow hgr (fun z hz e => by have h1 := (ow.lt z e).1; have h2 := Option.some.inj hz; omega)
      clear D ow hd hgr hsz
      have D := D9
      have ow := ow9
      clear D9 ow9
      have hk3 := nxt_range LL k0 3 (by omega)
      have hk0 : LL = [] → nxt LL k0 3 = 0 := (fun h => by rw [h]; exact nxt_none _ _)
      generalize nxt LL k0 3 = k3 at *
      have hw2 : IntKind.i64.wrap ((zn : Int) - 1 - k3) = (zn : Int) - 1 - k3 := IntWalk.i64_in _ (by omega)
      refine ⟨_, rfl, ⟨six_row (D.get 2 rfl), vd4 (D.get 1 rfl)⟩, ?_⟩
      simp only [Act.put, List.setIfInBounds_toArray, List.set_cons_zero, List.set_cons_succ]
      repeat (first | (refine Tree.take ?_ (by rfl) ?_ ?_; rotate_left; (· rintro w9 ⟨⟨d0, d1, d2, d3, d4, d5⟩, e0, e1, e2, e3⟩; go_simp; (try rw [if_neg (by omega)]); all_goals (with_reducible rfl)); simp only [Act.put, List.setIfInBounds_toArray, List.set_cons_zero, List.set_cons_succ]))
      have D9 := D
      have ow9 := ow
      clear D ow
      refine Tree.only (by rfl) (wp_store_row 58 _ _ rfl T (stArr (S4 zn g cs cb cq cd ch k3)) (by rfl) (by rfl) 58 _ (D9.get 0 rfl) st_info rfl (by simp [Value.oneCell']) ?_)
      have D := D9.put 0 rfl (B' := bx4 (S4 zn g cs cb cq cd ch k3) T V C w.heap.size g zn cs cb cq cd ch) rfl
      refine ⟨⟨six_row (D.get 2 rfl), vd4 (D.get 1 rfl)⟩, ?_⟩
      simp only [Act.put]
      refine Tree.ends ?_
      have ow := mk_kept ow9 (bxd_row _ T (stArr (S4 zn g cs cb cq cd ch k3))) (fun z hz e => by have h1 := Option.some.inj hz; have h2 := Option.some.inj (show some g = some z from e); omega)
      clear D9 ow9
      generalize World.setRow _ T (stArr (S4 zn g cs cb cq cd ch k3)) = w7 at *
      go_wp2_with fail
      go_meet
      exact ⟨T, _, k3, rfl, ⟨by omega, by omega⟩, hk0, by omega, D, ow⟩
  case rest =>
    clear D3 ow3
    obtain ⟨T, k9, k3, rfl, hk3, hk0, hgT, D, ow⟩ := hcut
    obtain ⟨d0, d1, d2, d3, d4, d5⟩ := six_row (D.get 2 rfl)
    go_wp2_with (first
      | (go_at_call 18; ((with_reducible refine (HEN.out _).mono ?_); rintro r9 w6 ⟨eg, ea, en, ec, eb, em, ed, rfl, le, h9⟩; have hB7 : ∀ b ∈ [T, V, C, w.heap.size], b < wc.heap.size := (fun b hb => by simp only [List.mem_cons, List.not_mem_nil, or_false] at hb; rcases hb with rfl | rfl | rfl | rfl; (· exact e_lt (D.get 0 rfl)); (· exact e_lt (D.get 1 rfl)); (· exact e_lt (D.get 2 rfl)); (· exact e_lt (D.get 3 rfl))); have hq7 := dice_lt D.dd; have hbq := dice_base D.dd; rw [World.size_alloc] at hbq; have D9 := D.on h9; have ow9 := e_owns_on ow h9; clear D ow d0 d1 d2 d3 d4 d5; have D := D9; have ow := ow9; clear D9 ow9))
      | ((refine store_mid 39 (.tmp 40) (.tmp 38) T 14 #[.int .i64 eg, .slice ea en ec, .slice eb em ed] (stArr { S4 zn g cs cb cq cd ch k3 with eg := eg, iA := ea, iN := en, iC := ec, rA := eb, rN := em, rC := ed }) ?_ ?_ (D.get 0 rfl) ?_ ?_ ?_ ?_ ?_); (· rfl); (· rfl); (· show 14 + 3 ≤ 48; decide); (· exact epo_info); (· simp [Value.oneCell']); (· rfl); simp only [Act.put]; have D9 := D.put 0 rfl (B' := bx4 { S4 zn g cs cb cq cd ch k3 with eg := eg, iA := ea, iN := en, iC := ec, rA := eb, rN := em, rC := ed } T V C w.heap.size g zn cs cb cq cd ch) rfl))
    have ow9 := mk_kept ow (bxd_row _ T (stArr { S4 zn g cs cb cq cd ch k3 with eg := eg, iA := ea, iN := en, iC := ec, rA := eb, rN := em, rC := ed })) (fun z hz e => by have h1 := Option.some.inj hz; have h2 := Option.some.inj (show some g = some z from e); omega)
    have hqg := (ow9.lt g rfl).1
    have M0 : MkL _ q [T, V, C, w.heap.size] { S4 zn g cs cb cq cd ch k3 with eg := eg, iA := ea, iN := en, iC := ec, rA := eb, rN := em, rC := ed } (List.replicate zn empty) ⟨[], []⟩ (EpoMath.newE cq) _ := mk_start (B := wc.heap.size) rfl rfl rfl rfl rfl rfl ow9 (made_cells _ _ zn) (le.on (Same.row (r := T) (fun h => by have h8 : wc.heap.size ≤ T := h; have := hB7 T (.head _); omega) (stArr { S4 zn g cs cb cq cd ch k3 with eg := eg, iA := ea, iN := en, iC := ec, rA := eb, rN := em, rC := ed }))) hq7 (by have := hB7 T (.head _); omega) hB7 (fun b hb => by
      simp only [List.mem_cons, List.not_mem_nil, or_false] at hb
      rcases hb with rfl | rfl | rfl | rfl <;> omega)
    have hE9 : (EpoMath.newE cq).zones = [] := by unfold EpoMath.newE; split <;> rfl
    have F0 := MadeF.start LL (zn := zn) (g := g) (cs := cs) (cb := cb) (cq := cq) (cd := cd) (ch := ch) (k3 := k3) (eg := eg) (ea := ea) (eb := eb) (en := en) (ec := ec) (em := em) (ed := ed) hE9 (by have h9 := le.z.length; rw [hE9] at h9; simp at h9; omega)
    clear D ow le ow9 hB7 hE9
    generalize World.setRow w6 T _ = w5 at *
    have D := D9
    clear D9
    go_loopw [8] (fun x wr => ∃ (i k : Nat) (S : Sv) (Z : List Zone) (Cn : Cnt) (E : Epo) (CV : List Value), x = .int .i64 (i : Int) ∧ i ≤ zn ∧ BxD w wr (bx4 S T V C w.heap.size g zn cs cb cq cd ch) (w.alloc (stRow st0)).heap.size q LL k ∧ MkL wr q [T, V, C, w.heap.size] S Z Cn E CV ∧ RowKit.Hid (MadeF LL zn i cs cb cq cd ch k3 g S Z Cn E)) (fun x _ => zn - (intOf x).toNat)
    case atStart => exact ⟨0, _, _, _, _, _, _, rfl, by omega, D, M0, Lib.hid F0⟩
    case round =>
      clear D M0 F0
      obtain ⟨i, k, S, Z, Cn, E, CV, rfl, hi, D, M, hF⟩ := hrel
      obtain ⟨d0, d1, d2, d3, d4, d5⟩ := six_row (D.get 2 rfl)
      by_cases hlt : i < zn
      · have hiI : (i : Int) < (zn : Int) := by omega
        have hv1 : wrap64 (cs + 1) = cs + 1 := by unfold wrap64; omega
        have hr4 := nxt_range LL k (cs + 1) (by omega)
        have hn4 : LL = [] → nxt LL k (cs + 1) = 0 := (fun h => by rw [h]; exact nxt_none _ _)
        obtain ⟨N, hN⟩ : ∃ N : Nat, nxt LL k (cs + 1) = (N : Int) := ⟨(nxt LL k (cs + 1)).toNat, by omega⟩
        have hN2 : N ≤ 6 := by omega
        have hN3 : (N : Int) ≤ cs := by omega
        have hN0 : LL = [] → N = 0 := (fun h => by have := hn4 h; omega)
        replace hN := Lib.hid hN
        clear hr4 hn4
        go_upto_block 2 with (first
          | (go_at_call 17; ((with_reducible refine (next_any _ _ _ _ _ (cs + 1) D.dd HLL.out (by omega) (by omega)).mono ?_); rintro r9 w8 ⟨rfl, hd, hgr, hsz⟩; rw [hN.out]; have D8 := D.next hd hgr; have M8 := M.touch hgr (fun z hz => .inl (by have := Option.some.inj hz; omega)); clear D M hd hgr hsz d0 d1 d2 d3 d4 d5; have D9 := D8.al (zoneRow 0 0 none 0 0); have M9 := (M8.on ((Below.refl _ _).alloc (Nat.le_refl _) (zoneRow 0 0 none 0 0))); have M7 := M8.more (x := w8.heap.size) (Nat.le_refl _); have M6 := M7.on ((Below.refl _ _).alloc (Nat.le_refl _) (zoneRow 0 0 none 0 0)); clear D8 M8 M9 M7; have D := D9; have M := M6; clear D9 M6; obtain ⟨d0, d1, d2, d3, d4, d5⟩ := six_row (D.get 3 rfl))))
        have M5 := M.more (x := (w8.alloc (zoneRow 0 0 none 0 0)).heap.size) (Nat.le_refl _)
        generalize (w8.alloc (zoneRow 0 0 none 0 0)).heap.size = X at *
        generalize w8.heap.size = Zb at *
        generalize w8.alloc (zoneRow 0 0 none 0 0) = w7' at *
        clear M
        go_cut [] (fun wx => ∃ (k X : Nat) (sa : Option Addr) (sc : Nat) (L : List ByteArray), BxD w wx ((Zb, zoneRow 0 0 sa N sc) :: bx4 S T V C w.heap.size g zn cs cb cq cd ch) (w.alloc (stRow st0)).heap.size q LL k ∧ MkL wx q [X, Zb, T, V, C, w.heap.size] S Z Cn E CV ∧ wx.ownsRow (q + 1) RSt.et RSt.sz (.slice sa N sc) N (RSt.all L) ∧ (∀ s ∈ L, s.size ≤ 40) ∧ (∀ b, (Value.slice sa N sc).ownBlock = some b → b = X ∧ b ∉ [Zb, T, V, C, w.heap.size]))
        case first =>
          go_wp2_with fail
          go_loopw [11] (fun y wx => ∃ (j k X : Nat) (sa : Option Addr) (sc : Nat) (L : List ByteArray), y = .int .i64 (j : Int) ∧ j ≤ N ∧ BxD w wx ((Zb, zoneRow 0 0 sa j sc) :: bx4 S T V C w.heap.size g zn cs cb cq cd ch) (w.alloc (stRow st0)).heap.size q LL k ∧ MkL wx q [X, Zb, T, V, C, w.heap.size] S Z Cn E CV ∧ wx.ownsRow (q + 1) RSt.et RSt.sz (.slice sa j sc) j (RSt.all L) ∧ (∀ s ∈ L, s.size ≤ 40) ∧ (∀ b, (Value.slice sa j sc).ownBlock = some b → b = X ∧ b ∉ [Zb, T, V, C, w.heap.size])) (fun y _ => N - (intOf y).toNat)
          case atStart => exact ⟨0, _, X, none, 0, [], rfl, by omega, D, M5, World.ownsRow_nil _ _ _ _, (fun s hs => by cases hs), (fun b hb => by cases hb)⟩
          case round =>
            clear D M5 d0 d1 d2 d3 d4 d5
            obtain ⟨j, k9, X9, sa, sc, L, rfl, hj, D, M, ow, hLs, hX⟩ := hrel
            by_cases hjl : j < N
            · have hjI : (j : Int) < (N : Int) := by omega
              have hw4 : IntKind.i64.wrap (1 + (j : Int)) = 1 + (j : Int) := IntWalk.i64_in _ (by omega)
              go_wp2
              refine LTree.start (fun W => (W.cell? ⟨Zb, 0, none⟩ = some (.int .i64 0) ∧ W.cell? ⟨Zb, 1, none⟩ = some (.int .i64 0) ∧ W.cell? ⟨Zb, 2, none⟩ = some (.slice sa j sc)) ∧ W.cell? ⟨C, 0, none⟩ = some (.int .i64 (zn : Int)) ∧ W.cell? ⟨C, 1, none⟩ = some (.int .i64 cs) ∧ W.cell? ⟨C, 2, none⟩ = some (.int .i64 cb) ∧ W.cell? ⟨C, 3, none⟩ = some (.int .i64 cq) ∧ W.cell? ⟨C, 4, none⟩ = some (.int .i64 cd) ∧ W.cell? ⟨C, 5, none⟩ = some (.int .i64 ch)) (.take 0 (.take 1 (.take 2 (.take 3 (.take 4 (.take 5 (.take 6 (.only 7 (.only 8 (.only 9 (.only 10 (.take 11 (.only 12 (.done)))))))))))))) (by kernel_rfl) (by kernel_rfl) (by kernel_rfl) (by kernel_rfl) (show _ from ⟨three_row (D.drew.get 0 rfl), six_row (D.drew.get 3 rfl)⟩) ?_
              simp only [Tree.T.map, List.getElem?_toArray, List.getElem?_cons_zero, List.getElem?_cons_succ]
              repeat (first | (refine LTree.take ?_ (by rfl) ?_ ?_; rotate_left; (· rintro w9 ⟨⟨u0, u1, u2⟩, e0, e1, e2, e3, e4, e5⟩; go_simp; (try rw [if_neg (by omega)]); all_goals (with_reducible rfl)); simp only [Act.put, List.setIfInBounds_toArray, List.set_cons_zero, List.set_cons_succ]))
              have D9 := D.drew
              have M9 := M.on (Below.refl _ _).drew
              have ow9 := e_owns_on ow (Below.refl _ _).drew
              clear D M ow
              have D := D9
              have M := M9
              have ow := ow9
              clear D9 M9 ow9
              generalize World.drew _ = v0 at *
              refine LTree.only (by rfl) (Tree.wp_call 20 _ ?_ (made_any _ _ _ _ _ cb (1 + (j : Int)) D.dd HLL.out (by omega) (by omega)) ?_)
              · go_simp
              rintro r9 v1 ⟨rfl, hd, hgr⟩
              have D9 := D.next hd hgr
              have M9 := M.touch hgr (fun z hz => .inl (by have := Option.some.inj hz; omega))
              have ow9 := mk_kept ow hgr (fun z hz e => by have h1 := (ow.lt z e).1; have h2 := Option.some.inj hz; omega)
              clear D M ow hd hgr
              have D := D9
              have M := M9
              have ow := ow9
              clear D9 M9 ow9
              refine ⟨_, rfl, ⟨three_row (D.get 0 rfl), six_row (D.get 3 rfl)⟩, ?_⟩
              simp only [Act.put, List.setIfInBounds_toArray, List.set_cons_zero, List.set_cons_succ]
              refine LTree.only (by rfl) (Tree.wp_call 19 _ ?_ (sector_made (madeK LL k9) (nxt LL k9 cb) (1 + (j : Int)) 0 (madeP LL k9) v1) ?_)
              · go_simp
              rintro r9 v2 ⟨rfl, hd⟩
              have D9 := D.on hd
              have M9 := M.on hd
              have ow9 := e_owns_on ow hd
              clear D M ow hd
              have D := D9
              have M := M9
              have ow := ow9
              clear D9 M9 ow9
              refine ⟨_, rfl, ⟨three_row (D.get 0 rfl), six_row (D.get 3 rfl)⟩, ?_⟩
              simp only [Act.put, List.setIfInBounds_toArray, List.set_cons_zero, List.set_cons_succ]
              have hB9 := sector_size (mk (madeK LL k9) (nxt LL k9 cb) (1 + (j : Int)) 0 (madeP LL k9))
              generalize (⟨(RecMath.encL (mk (madeK LL k9) (nxt LL k9 cb) (1 + (j : Int)) 0 (madeP LL k9))).toArray⟩ : ByteArray) = B9 at *
              have hOne := heap_alloc_new v2 (.cells #[.string B9] 9 (0, 0))
              have D9 := D.al' (.cells #[.string B9] 9 (0, 0))
              have M9 := M.on ((Below.refl _ _).alloc (Nat.le_refl _) (.cells #[.string B9] 9 (0, 0)))
              have ow9 := e_owns_on ow ((Below.refl _ _).alloc (Nat.le_refl _) (.cells #[.string B9] 9 (0, 0)))
              clear D M ow
              have D := D9
              have M := M9
              have ow := ow9
              clear D9 M9 ow9
              refine LTree.only (by rfl) (Tree.wp_make (.slice (some ⟨v2.heap.size, 0, none⟩) 1 1) (v2.alloc (.cells #[.string B9] 9 (0, 0))) (build_str 66 _ rfl (by rfl)) ⟨⟨three_row (D.get 0 rfl), six_row (D.get 3 rfl)⟩, ?_⟩)
              simp only [Act.put, List.setIfInBounds_toArray, List.set_cons_zero, List.set_cons_succ]
              generalize v2.heap.size = GB at *
              generalize v2.alloc (.cells #[.string B9] 9 (0, 0)) = v3 at *
              have hq3 := dice_lt D.dd
              have hlt3 : ∀ b ∈ [Zb, T, V, C, w.heap.size], b < v3.heap.size := D.below
              refine LTree.only (by rfl) (Rws.wp_append_one rsOk (.tmp 59) (.tmp 67) rfl (q + 1) (.slice sa j sc) j L rfl ow GB B9 rfl hOne (by omega) (by omega) ?_)
              intro g9 c9 v4 own9 hgrow9 hat
              have D9 := D.grown hgrow9 (fun z hz => ⟨by have h1 := (ow.lt z hz).1; omega, fun x hx e => by
                have h2 := List.mem_map_of_mem (f := Prod.fst) hx
                rw [e] at h2
                exact (hX z hz).2 h2⟩)
              have M9 := M.app (g' := g9) (fun b hb => (hX b hb).1) hgrow9 hat
              clear D M ow hOne hgrow9
              have D := D9
              have M := M9
              have ow := own9
              clear D9 M9 own9
              refine ⟨⟨three_row (D.get 0 rfl), six_row (D.get 3 rfl)⟩, ?_⟩
              simp only [Act.put, List.setIfInBounds_toArray, List.set_cons_zero, List.set_cons_succ]
              repeat (first | (refine LTree.take ?_ (by rfl) ?_ ?_; rotate_left; (· rintro w9 ⟨⟨u0, u1, u2⟩, e0, e1, e2, e3, e4, e5⟩; go_simp; (try rw [if_neg (by omega)]); all_goals (with_reducible rfl)); simp only [Act.put, List.setIfInBounds_toArray, List.set_cons_zero, List.set_cons_succ]))
              have eZ : World.setCell v4 ⟨Zb, 2, none⟩ (.slice (some ⟨g9, 0, none⟩) (j + 1) c9) = v4.setRow Zb #[.int .i64 0, .int .i64 0, .slice (some ⟨g9, 0, none⟩) (j + 1) c9] := setCell_eq_setRow _ _ _ _ _ _ _ (D.get 0 rfl)
              refine LTree.last (by rfl) (wp_store_slice_c 67 (.tmp 69) (.tmp 68) rfl Zb 2 (some ⟨g9, 0, none⟩) (j + 1) c9 rfl rfl ⟨_, cell_of_row _ _ 2 _ _ _ (D.get 0 rfl)⟩ (free_row_c (D.get 0 rfl)) strl_info ?_)
              rw [eZ]
              clear eZ
              have D9 := D.put 0 rfl (cs' := #[.int .i64 0, .int .i64 0, .slice (some ⟨g9, 0, none⟩) (j + 1) c9]) (B' := ((Zb, zoneRow 0 0 (some ⟨g9, 0, none⟩) (j + 1) c9) :: bx4 S T V C w.heap.size g zn cs cb cq cd ch)) rfl
              have M9 := M.box (x := Zb) (.tail _ (.head _)) #[.int .i64 0, .int .i64 0, .slice (some ⟨g9, 0, none⟩) (j + 1) c9]
              have hlo9 := (ow.lt g9 rfl).1
              have hg9 : g9 ∉ [Zb, T, V, C, w.heap.size] := by
                rcases hat with h9 | h9
                · exact (hX g9 h9).2
                · intro hm
                  have hb : ∀ b ∈ [Zb, T, V, C, w.heap.size], b < v3.heap.size := hlt3
                  have := hb g9 hm
                  omega
              have ow9 := mk_kept ow (bxd_row _ Zb #[.int .i64 0, .int .i64 0, .slice (some ⟨g9, 0, none⟩) (j + 1) c9]) (fun z hz e => hg9 (by obtain rfl := Option.some.inj hz; have h2 := Option.some.inj (show some g9 = some Zb from e); rw [h2]; exact .head _))
              clear D M ow hat
              generalize World.setRow v4 Zb _ = v5 at *
              simp only [Act.put]
              go_wp2_with fail
              go_roundw
              case measure => simp [intOf]; omega
              case rel => exact ⟨j + 1, _, g9, some ⟨g9, 0, none⟩, c9, L ++ [B9], by go_num, by omega, D9, M9, ow9, fun s hs => by
                rcases List.mem_append.1 hs with h9 | h9
                · exact hLs s h9
                · rw [List.mem_singleton.1 h9]; exact hB9, fun b hb => by
                have h2 := Option.some.inj (show some g9 = some b from hb)
                subst h2
                exact ⟨rfl, hg9⟩⟩
            · obtain rfl : j = N := by omega
              go_wp2_with fail
              go_meet
              exact ⟨_, X9, sa, sc, L, D, M, ow, hLs, hX⟩
        case rest =>
          clear D M5 d0 d1 d2 d3 d4 d5
          obtain ⟨k9, X9, sa, sc, L, D, M, ow, hLs, hX⟩ := hcut
          go_upto_region 15 with fail
          go_cut [78] (fun x wx => ∃ (k : Nat) (b : Bool), x = .bool b ∧ (LL = [] → b = false) ∧ BxD w wx ((Zb, zoneRow 0 0 sa N sc) :: bx4 S T V C w.heap.size g zn cs cb cq cd ch) (w.alloc (stRow st0)).heap.size q LL k ∧ MkL wx q [X9, Zb, T, V, C, w.heap.size] S Z Cn E CV ∧ wx.ownsRow (q + 1) RSt.et RSt.sz (.slice sa N sc) N (RSt.all L) ∧ (∀ s ∈ L, s.size ≤ 40) ∧ (∀ b, (Value.slice sa N sc).ownBlock = some b → b = X9 ∧ b ∉ [Zb, T, V, C, w.heap.size]))
          case first =>
            obtain ⟨d0, d1, d2, d3, d4, d5⟩ := six_row (D.get 3 rfl)
            have hr4 := nxt_range LL k9 4 (by omega)
            have hn4 : LL = [] → nxt LL k9 4 = 0 := (fun h => by rw [h]; exact nxt_none _ _)
            by_cases hNs : (N : Int) = cs
            · have hb1 : ((N : Int) == cs) = true := by simpa using hNs
              go_wp2_with fail
              go_meet
              exact ⟨_, true, rfl, (fun h => by have := hN0 h; omega), D, M, ow, hLs, hX⟩
            · have hb1 : ((N : Int) == cs) = false := by simpa using hNs
              go_wp2_with (first
                | (go_at_call 17; ((with_reducible refine (next_any _ _ _ _ _ 4 D.dd HLL.out (by omega) (by omega)).mono ?_); rintro r9 w8 ⟨rfl, hd, hgr, hsz⟩; have D8 := D.next hd hgr; have M8 := M.touch hgr (fun z hz => .inl (by have := Option.some.inj hz; omega)); have ow8 := mk_kept ow hgr (fun z hz e => by have h1 := (ow.lt z e).1; have h2 := Option.some.inj hz; omega); clear D M ow hd hgr hsz d0 d1 d2 d3 d4 d5; have D := D8; have M := M8; have ow := ow8; clear D8 M8 ow8)))
              go_meet
              exact ⟨_, decide (0 < nxt LL k9 4), rfl, (fun h => by rw [hn4 h]; rfl), D, M, ow, hLs, hX⟩
          case rest =>
            clear D M ow hX
            obtain ⟨k8, b, rfl, hbn, D, M, ow, -, hX⟩ := hcut
            go_upto_if 78 with fail
            go_cut [] (fun wx => ∃ (st du : Int), (LL = [] → st = 0 ∧ du = 0) ∧ BxD w wx ((Zb, zoneRow st du sa N sc) :: bx4 S T V C w.heap.size g zn cs cb cq cd ch) (w.alloc (stRow st0)).heap.size q LL k8 ∧ MkL wx q [X9, Zb, T, V, C, w.heap.size] S Z Cn E CV ∧ wx.ownsRow (q + 1) RSt.et RSt.sz (.slice sa N sc) N (RSt.all L) ∧ (∀ s ∈ L, s.size ≤ 40) ∧ (∀ b, (Value.slice sa N sc).ownBlock = some b → b = X9 ∧ b ∉ [Zb, T, V, C, w.heap.size]))
            case first =>
              cases b
              · by_cases hN1 : 0 < N
                · have hNI : (0 : Int) < (N : Int) := by omega
                  go_wp2_with (first
                    | ((with_reducible refine Mk.store_int 3 (.tmp 84) (.const (.int .i64 3)) Zb 0 .i64 3 ?_ ?_ ⟨_, cell_of_row _ _ 0 _ _ _ (D.get 0 rfl)⟩ (free_row_c (D.get 0 rfl)) Put.int_info1 ?_); (· rfl); (· rfl); simp only [Act.put]; rw [setCell_eq_setRow _ _ _ _ _ _ _ (D.get 0 rfl)]; simp only [List.setIfInBounds_toArray, List.set_cons_zero] ; have D1 := D.put 0 rfl (cs' := #[.int .i64 3, .int .i64 0, .slice sa N sc]) (B' := ((Zb, zoneRow 3 0 sa N sc) :: bx4 S T V C w.heap.size g zn cs cb cq cd ch)) rfl; have M1 := M.box (x := Zb) (.tail _ (.head _)) #[.int .i64 3, .int .i64 0, .slice sa N sc]; have ow1 := mk_kept ow (bxd_row _ Zb #[.int .i64 3, .int .i64 0, .slice sa N sc]) (fun z hz e => (hX z e).2 (by obtain rfl := Option.some.inj hz; exact .head _)); generalize World.setRow _ Zb #[.int .i64 3, .int .i64 0, .slice sa N sc] = w91 at *))
                  go_meet
                  exact ⟨3, 0, (fun h => by have := hN0 h; omega), D1, M1, ow1, hLs, hX⟩
                · have hNI : ¬ (0 : Int) < (N : Int) := by omega
                  go_wp2_with fail
                  go_meet
                  exact ⟨0, 0, fun _ => ⟨rfl, rfl⟩, D, M, ow, hLs, hX⟩
              · go_wp2_with (first
                  | ((with_reducible refine Mk.store_int 3 (.tmp 80) (.const (.int .i64 4)) Zb 0 .i64 4 ?_ ?_ ⟨_, cell_of_row _ _ 0 _ _ _ (D.get 0 rfl)⟩ (free_row_c (D.get 0 rfl)) Put.int_info1 ?_); (· rfl); (· rfl); simp only [Act.put]; rw [setCell_eq_setRow _ _ _ _ _ _ _ (D.get 0 rfl)]; simp only [List.setIfInBounds_toArray, List.set_cons_zero] ; have D1 := D.put 0 rfl (cs' := #[.int .i64 4, .int .i64 0, .slice sa N sc]) (B' := ((Zb, zoneRow 4 0 sa N sc) :: bx4 S T V C w.heap.size g zn cs cb cq cd ch)) rfl; have M1 := M.box (x := Zb) (.tail _ (.head _)) #[.int .i64 4, .int .i64 0, .slice sa N sc]; have ow1 := mk_kept ow (bxd_row _ Zb #[.int .i64 4, .int .i64 0, .slice sa N sc]) (fun z hz e => (hX z e).2 (by obtain rfl := Option.some.inj hz; exact .head _)); generalize World.setRow _ Zb #[.int .i64 4, .int .i64 0, .slice sa N sc] = w91 at *)
                  | ((with_reducible refine Mk.store_int 3 (.tmp 81) (.tmp 79) Zb 1 .i64 (N : Int) ?_ ?_ ⟨_, cell_of_row _ _ 1 _ _ _ (D1.get 0 rfl)⟩ (free_row_c (D1.get 0 rfl)) Put.int_info1 ?_); (· rfl); (· rfl); simp only [Act.put]; rw [setCell_eq_setRow _ _ _ _ _ _ _ (D1.get 0 rfl)]; simp only [List.setIfInBounds_toArray, List.set_cons_zero, List.set_cons_succ]; have D2 := D1.put 0 rfl (cs' := #[.int .i64 4, .int .i64 (N : Int), .slice sa N sc]) (B' := ((Zb, zoneRow 4 (N : Int) sa N sc) :: bx4 S T V C w.heap.size g zn cs cb cq cd ch)) rfl; have M2 := M1.box (x := Zb) (.tail _ (.head _)) #[.int .i64 4, .int .i64 (N : Int), .slice sa N sc]; have ow2 := mk_kept ow1 (bxd_row _ Zb #[.int .i64 4, .int .i64 (N : Int), .slice sa N sc]) (fun z hz e => (hX z e).2 (by obtain rfl := Option.some.inj hz; exact .head _)); generalize World.setRow _ Zb #[.int .i64 4, .int .i64 (N : Int), .slice sa N sc] = w92 at *))
                go_meet
                exact ⟨4, (N : Int), (fun h => by cases hbn h), D2, M2, ow2, hLs, hX⟩
            case rest =>
              clear D M ow hX
              obtain ⟨st, du, hsd, D, M, ow, -, hX⟩ := hcut
              obtain ⟨hsn, hLn⟩ := mk_strs ow hLs (F := Fr q [T, V, C, w.heap.size] S) (fun b hb => by
                have hb1 := (ow.lt b hb).1
                obtain ⟨hb2, hb3⟩ := hX b hb
                subst hb2
                exact ⟨by omega, fun hm => hb3 (.tail _ hm), (M.nb _ (.head _)).1, (M.nb _ (.head _)).2.1, (M.nb _ (.head _)).2.2⟩)
              have hzA := hF.out.dev.2.1
              have hzN := hF.out.dev.2.2.1
              have hzL := hF.out.dev.2.2.2
              have hlN := hF.out.cnt.1
              have hpN := hF.out.cnt.2.1
              have hrN := hF.out.ret
              have M1 : MkL wc q [T, V, C, w.heap.size] S Z Cn E CV := M.sub (fun b hb => .tail _ (.tail _ hb))
              have D1 := D.tail
              have hc9 := st_cell (D.get 1 rfl) (j := 9) rfl
              rw [hzA, hzN] at hc9
              have T8 := put_there (show wc.ownsRow (q + 1) 69 3 (.slice (some ⟨g, 0, none⟩) S.zN S.zC) S.zN CV from by have h := M1.zo; unfold slV at h; rw [hzA] at h; exact h) M1.zc (show i < Z.length by omega)
              have HZ := Lib.hid (fun w9 (e9 : w9 = wc.setCells g (i * 3) [.int .i64 st, .int .i64 du, .slice sa N sc]) => (show BxD w w9 (bx4 S T V C w.heap.size g zn cs cb cq cd ch) (w.alloc (stRow st0)).heap.size q LL k8 ∧ MkL w9 q [T, V, C, w.heap.size] S (Z.set i ⟨st, du, L⟩) Cn E _ from by subst e9; exact ⟨D1.cells M1 hzA _ _, M1.zone hzA (show i < Z.length by omega) ⟨st, du, L⟩ hsn⟩))
              clear M M1 D1 ow hsn hX
              replace hzA := Lib.hid hzA
              replace hzN := Lib.hid hzN
              replace hzL := Lib.hid hzL
              replace hlN := Lib.hid hlN
              replace hpN := Lib.hid hpN
              replace hLn := Lib.hid hLn
              go_wp2_with (first
                | ((with_reducible refine Plan.load_lit 69 (.tmp 10) Zb ?_ (D.get 0 rfl) Try.underlying69 ?_ ?_ ?_); (· rfl); (· rfl); (· exact zone_info); simp only [Act.put, List.setIfInBounds_toArray, List.set_cons_zero, List.set_cons_succ])
                | ((with_reducible refine idx_store_zone 27 69 90 (.tmp 87) (.tmp 88) (.tmp 89) g (i * 3) (.int .i64 st) (.int .i64 du) (.slice sa N sc) ?_ ?_ ?_ T8 ?_ ?_ ?_); (· go_simp); (· rfl); (· rfl); (· exact zone_info); (· simp [Value.oneCell']); intro w9 e9; obtain ⟨D9, M9⟩ := HZ.out w9 e9; clear e9 D HZ T8 hc9; simp only [Act.put, List.setIfInBounds_toArray, List.set_cons_zero, List.set_cons_succ]; have D := D9; have M := M9; clear D9 M9))
              skip
              have hv2 : IntKind.i64.wrap (cs + 1) = cs + 1 := IntWalk.i64_in _ (by omega)
              go_upto_region 20 with fail
              go_cut [] (fun wx => ∃ (k7 g9 c9 : Nat) (l9 : Int) (CV : List Value), (0 ≤ l9 ∧ l9 ≤ cs) ∧ (LL = [] → l9 = 0) ∧ BxD w wx (bx4 { S with lA := some ⟨g9, 0, none⟩, lN := S.lN + 1, lC := c9 } T V C w.heap.size g zn cs cb cq cd ch) (w.alloc (stRow st0)).heap.size q LL k7 ∧ MkL wx q [T, V, C, w.heap.size] { S with lA := some ⟨g9, 0, none⟩, lN := S.lN + 1, lC := c9 } (Z.set i ⟨st, du, L⟩) ⟨Cn.live ++ [l9], Cn.pend⟩ E CV)
              case first =>
                refine Tree.start (fun W => W.cell? ⟨C, 1, none⟩ = some (.int .i64 cs)) (.take 0 (.take 1 (.take 3 (.take 4 (.take 5 (.take 6 (.fork 2 (.only 7 (.only 8 (.only 9 (.take 10 (.take 11 (.only 12 (.done))))))) 7 (.fork 2 (.only 8 (.only 9 (.take 10 (.take 11 (.only 12 (.done)))))) 8 (.only 2 (.only 9 (.take 10 (.take 11 (.only 12 (.done)))))))))))))) (by kernel_rfl) (by kernel_rfl) (by kernel_rfl) (by kernel_rfl) (show _ from (six_row (D.drew.get 2 rfl)).2.1) ?_
                simp only [Tree.T.map, List.getElem?_toArray, List.getElem?_cons_zero, List.getElem?_cons_succ]
                repeat (first | (refine Tree.take ?_ (by rfl) ?_ ?_; rotate_left; (· rintro w9 e0; go_simp; (try rw [if_neg (by omega)]); all_goals (with_reducible rfl)); simp only [Act.put, List.setIfInBounds_toArray, List.set_cons_zero, List.set_cons_succ]))
                have D9 := D.drew
                have M9 := M.on (Below.refl _ _).drew
                clear D M
                have D := D9
                have M := M9
                clear D9 M9
                generalize World.drew _ = v0 at *
                have hcl := st_cell (D.get 0 rfl) (j := 11) rfl
                refine Tree.fork (by rfl) (by rfl) ?_ ?_
                · refine Tree.wp_make (slV S.lA S.lN S.lC) v0 ?_ ⟨(six_row (D.get 2 rfl)).2.1, ?_⟩
                  · go_simp
                  simp only [Act.put, List.setIfInBounds_toArray, List.set_cons_zero, List.set_cons_succ]
                  refine Tree.only (by rfl) (Tree.wp_call 17 _ ?_ (next_any _ _ _ _ _ (cs + 1) D.dd HLL.out (by omega) (by omega)) ?_)
                  · go_simp
                  rintro r9 v1 ⟨rfl, hd, hgr, hsz⟩
                  have D9 := D.next hd hgr
                  have M9 := M.touch hgr (fun z hz => .inl (by have := Option.some.inj hz; omega))
                  clear D M hd hgr hsz hcl
                  have D := D9
                  have M := M9
                  clear D9 M9
                  have hcl := st_cell (D.get 0 rfl) (j := 11) rfl
                  refine ⟨_, rfl, (six_row (D.get 2 rfl)).2.1, ?_⟩
                  simp only [Act.put, List.setIfInBounds_toArray, List.set_cons_zero, List.set_cons_succ]
                  have hl9 := nxt_range LL k8 (cs + 1) (by omega)
                  have hl0 : LL = [] → nxt LL k8 (cs + 1) = 0 := (fun h => by rw [h]; exact nxt_none _ _)
                  generalize nxt LL k8 (cs + 1) = l9 at *
                  have hOne := heap_alloc_new v1 (.cells #[.int .i64 l9] 3 (0, 0))
                  have D9 := D.al' (.cells #[.int .i64 l9] 3 (0, 0))
                  have M9 := M.on ((Below.refl _ _).alloc (Nat.le_refl _) (.cells #[.int .i64 l9] 3 (0, 0)))
                  clear D M hcl
                  have D := D9
                  have M := M9
                  clear D9 M9
                  refine Tree.only (by rfl) (Tree.wp_make (.slice (some ⟨v1.heap.size, 0, none⟩) 1 1) (v1.alloc (.cells #[.int .i64 l9] 3 (0, 0))) (build_int 98 _ rfl (by rfl)) ⟨(six_row (D.get 2 rfl)).2.1, ?_⟩)
                  simp only [Act.put, List.setIfInBounds_toArray, List.set_cons_zero, List.set_cons_succ]
                  generalize v1.heap.size = GB at *
                  generalize v1.alloc (.cells #[.int .i64 l9] 3 (0, 0)) = v3 at *
                  have hcl := st_cell (D.get 0 rfl) (j := 11) rfl
                  clear hcl
                  have hq3 := dice_lt D.dd
                  refine Tree.only (by rfl) (Rws.wp_append_one riOk (.tmp 93) (.tmp 99) rfl (q + 1) (slV S.lA S.lN S.lC) S.lN Cn.live rfl (by rw [ri_all]; exact M.lo) GB l9 rfl hOne (by have := hlN.out; have := hpN.out; omega) (by omega) ?_)
                  intro g9 c9 v4 own9 hgrow9 hat
                  rw [ri_all] at own9
                  have D9 := D.live M hgrow9
                  have M9 := M.live (a := some ⟨g9, 0, none⟩) (n := S.lN + 1) (c := c9) D.below hgrow9 own9 (fun b hb => by have h2 := Option.some.inj (show some g9 = some b from hb); subst h2; exact hat)
                  clear D M hOne hgrow9 own9 hat
                  have D := D9
                  have M := M9
                  clear D9 M9
                  refine ⟨(six_row (D.get 2 rfl)).2.1, ?_⟩
                  simp only [Act.put, List.setIfInBounds_toArray, List.set_cons_zero, List.set_cons_succ]
                  repeat (first | (refine Tree.take ?_ (by rfl) ?_ ?_; rotate_left; (· rintro w9 e0; go_simp; (try rw [if_neg (by omega)]); all_goals (with_reducible rfl)); simp only [Act.put, List.setIfInBounds_toArray, List.set_cons_zero, List.set_cons_succ]))
                  have eT : World.setCell v4 ⟨T, 11, none⟩ (.slice (some ⟨g9, 0, none⟩) (S.lN + 1) c9) = v4.setRow T (stArr { S with lA := some ⟨g9, 0, none⟩, lN := S.lN + 1, lC := c9 }) := setCell_eq_setRow _ _ _ _ _ _ _ (D.get 0 rfl)
                  have D9 := D.put 0 rfl (cs' := stArr { S with lA := some ⟨g9, 0, none⟩, lN := S.lN + 1, lC := c9 }) (B' := bx4 { S with lA := some ⟨g9, 0, none⟩, lN := S.lN + 1, lC := c9 } T V C w.heap.size g zn cs cb cq cd ch) rfl
                  have M9 := M.box (x := T) (.head _) (stArr { S with lA := some ⟨g9, 0, none⟩, lN := S.lN + 1, lC := c9 })
                  refine Tree.only (by rfl) (wp_store_slice_c 22 (.tmp 102) (.tmp 100) rfl T 11 (some ⟨g9, 0, none⟩) (S.lN + 1) c9 rfl rfl ⟨_, cell_of_row _ _ 11 _ _ _ (D.get 0 rfl)⟩ (free_row_c (D.get 0 rfl)) ints_info1 ?_)
                  rw [eT]
                  clear eT D M
                  have D := D9
                  have M := M9
                  clear D9 M9
                  generalize World.setRow v4 T _ = v5 at *
                  refine ⟨(six_row (D.get 2 rfl)).2.1, ?_⟩
                  simp only [Act.put]
                  refine Tree.ends ?_
                  go_wp2_with fail
                  go_meet
                  exact ⟨_, g9, c9, l9, _, ⟨by omega, by omega⟩, hl0, D, M⟩
                · refine Tree.wp_call 17 _ ?_ (next_any _ _ _ _ _ (cs + 1) D.dd HLL.out (by omega) (by omega)) ?_
                  · go_simp
                  rintro r9 v1 ⟨rfl, hd, hgr, hsz⟩
                  have D9 := D.next hd hgr
                  have M9 := M.touch hgr (fun z hz => .inl (by have := Option.some.inj hz; omega))
                  clear D M hd hgr hsz hcl
                  have D := D9
                  have M := M9
                  clear D9 M9
                  have hcl := st_cell (D.get 0 rfl) (j := 11) rfl
                  refine ⟨_, rfl, (six_row (D.get 2 rfl)).2.1, ?_⟩
                  simp only [Act.put, List.setIfInBounds_toArray, List.set_cons_zero, List.set_cons_succ]
                  have hl9 := nxt_range LL k8 (cs + 1) (by omega)
                  have hl0 : LL = [] → nxt LL k8 (cs + 1) = 0 := (fun h => by rw [h]; exact nxt_none _ _)
                  generalize nxt LL k8 (cs + 1) = l9 at *
                  refine Tree.fork (by rfl) (by rfl) ?_ ?_
                  · refine Tree.wp_make (slV S.lA S.lN S.lC) v1 ?_ ⟨(six_row (D.get 2 rfl)).2.1, ?_⟩
                    · go_simp
                    simp only [Act.put, List.setIfInBounds_toArray, List.set_cons_zero, List.set_cons_succ]
                    have hOne := heap_alloc_new v1 (.cells #[.int .i64 l9] 3 (0, 0))
                    have D9 := D.al' (.cells #[.int .i64 l9] 3 (0, 0))
                    have M9 := M.on ((Below.refl _ _).alloc (Nat.le_refl _) (.cells #[.int .i64 l9] 3 (0, 0)))
                    clear D M hcl
                    have D := D9
                    have M := M9
                    clear D9 M9
                    refine Tree.only (by rfl) (Tree.wp_make (.slice (some ⟨v1.heap.size, 0, none⟩) 1 1) (v1.alloc (.cells #[.int .i64 l9] 3 (0, 0))) (build_int 98 _ rfl (by rfl)) ⟨(six_row (D.get 2 rfl)).2.1, ?_⟩)
                    simp only [Act.put, List.setIfInBounds_toArray, List.set_cons_zero, List.set_cons_succ]
                    generalize v1.heap.size = GB at *
                    generalize v1.alloc (.cells #[.int .i64 l9] 3 (0, 0)) = v3 at *
                    have hcl := st_cell (D.get 0 rfl) (j := 11) rfl
                    clear hcl
                    have hq3 := dice_lt D.dd
                    refine Tree.only (by rfl) (Rws.wp_append_one riOk (.tmp 93) (.tmp 99) rfl (q + 1) (slV S.lA S.lN S.lC) S.lN Cn.live rfl (by rw [ri_all]; exact M.lo) GB l9 rfl hOne (by have := hlN.out; have := hpN.out; omega) (by omega) ?_)
                    intro g9 c9 v4 own9 hgrow9 hat
                    rw [ri_all] at own9
                    have D9 := D.live M hgrow9
                    have M9 := M.live (a := some ⟨g9, 0, none⟩) (n := S.lN + 1) (c := c9) D.below hgrow9 own9 (fun b hb => by have h2 := Option.some.inj (show some g9 = some b from hb); subst h2; exact hat)
                    clear D M hOne hgrow9 own9 hat
                    have D := D9
                    have M := M9
                    clear D9 M9
                    refine ⟨(six_row (D.get 2 rfl)).2.1, ?_⟩
                    simp only [Act.put, List.setIfInBounds_toArray, List.set_cons_zero, List.set_cons_succ]
                    repeat (first | (refine Tree.take ?_ (by rfl) ?_ ?_; rotate_left; (· rintro w9 e0; go_simp; (try rw [if_neg (by omega)]); all_goals (with_reducible rfl)); simp only [Act.put, List.setIfInBounds_toArray, List.set_cons_zero, List.set_cons_succ]))
                    have eT : World.setCell v4 ⟨T, 11, none⟩ (.slice (some ⟨g9, 0, none⟩) (S.lN + 1) c9) = v4.setRow T (stArr { S with lA := some ⟨g9, 0, none⟩, lN := S.lN + 1, lC := c9 }) := setCell_eq_setRow _ _ _ _ _ _ _ (D.get 0 rfl)
                    have D9 := D.put 0 rfl (cs' := stArr { S with lA := some ⟨g9, 0, none⟩, lN := S.lN + 1, lC := c9 }) (B' := bx4 { S with lA := some ⟨g9, 0, none⟩, lN := S.lN + 1, lC := c9 } T V C w.heap.size g zn cs cb cq cd ch) rfl
                    have M9 := M.box (x := T) (.head _) (stArr { S with lA := some ⟨g9, 0, none⟩, lN := S.lN + 1, lC := c9 })
                    refine Tree.only (by rfl) (wp_store_slice_c 22 (.tmp 102) (.tmp 100) rfl T 11 (some ⟨g9, 0, none⟩) (S.lN + 1) c9 rfl rfl ⟨_, cell_of_row _ _ 11 _ _ _ (D.get 0 rfl)⟩ (free_row_c (D.get 0 rfl)) ints_info1 ?_)
                    rw [eT]
                    clear eT D M
                    have D := D9
                    have M := M9
                    clear D9 M9
                    generalize World.setRow v4 T _ = v5 at *
                    refine ⟨(six_row (D.get 2 rfl)).2.1, ?_⟩
                    simp only [Act.put]
                    refine Tree.ends ?_
                    go_wp2_with fail
                    go_meet
                    exact ⟨_, g9, c9, l9, _, ⟨by omega, by omega⟩, hl0, D, M⟩
                  · have hOne := heap_alloc_new v1 (.cells #[.int .i64 l9] 3 (0, 0))
                    have D9 := D.al' (.cells #[.int .i64 l9] 3 (0, 0))
                    have M9 := M.on ((Below.refl _ _).alloc (Nat.le_refl _) (.cells #[.int .i64 l9] 3 (0, 0)))
                    clear D M hcl
                    have D := D9
                    have M := M9
                    clear D9 M9
                    refine Tree.wp_make (.slice (some ⟨v1.heap.size, 0, none⟩) 1 1) (v1.alloc (.cells #[.int .i64 l9] 3 (0, 0))) (build_int 98 _ rfl (by rfl)) ⟨(six_row (D.get 2 rfl)).2.1, ?_⟩
                    simp only [Act.put, List.setIfInBounds_toArray, List.set_cons_zero, List.set_cons_succ]
                    generalize v1.heap.size = GB at *
                    generalize v1.alloc (.cells #[.int .i64 l9] 3 (0, 0)) = v3 at *
                    have hcl := st_cell (D.get 0 rfl) (j := 11) rfl
                    refine Tree.only (by rfl) (Tree.wp_make (slV S.lA S.lN S.lC) v3 ?_ ⟨(six_row (D.get 2 rfl)).2.1, ?_⟩)
                    · go_simp
                    simp only [Act.put, List.setIfInBounds_toArray, List.set_cons_zero, List.set_cons_succ]
                    clear hcl
                    have hq3 := dice_lt D.dd
                    refine Tree.only (by rfl) (Rws.wp_append_one riOk (.tmp 93) (.tmp 99) rfl (q + 1) (slV S.lA S.lN S.lC) S.lN Cn.live rfl (by rw [ri_all]; exact M.lo) GB l9 rfl hOne (by have := hlN.out; have := hpN.out; omega) (by omega) ?_)
                    intro g9 c9 v4 own9 hgrow9 hat
                    rw [ri_all] at own9
                    have D9 := D.live M hgrow9
                    have M9 := M.live (a := some ⟨g9, 0, none⟩) (n := S.lN + 1) (c := c9) D.below hgrow9 own9 (fun b hb => by have h2 := Option.some.inj (show some g9 = some b from hb); subst h2; exact hat)
                    clear D M hOne hgrow9 own9 hat
                    have D := D9
                    have M := M9
                    clear D9 M9
                    refine ⟨(six_row (D.get 2 rfl)).2.1, ?_⟩
                    simp only [Act.put, List.setIfInBounds_toArray, List.set_cons_zero, List.set_cons_succ]
                    repeat (first | (refine Tree.take ?_ (by rfl) ?_ ?_; rotate_left; (· rintro w9 e0; go_simp; (try rw [if_neg (by omega)]); all_goals (with_reducible rfl)); simp only [Act.put, List.setIfInBounds_toArray, List.set_cons_zero, List.set_cons_succ]))
                    have eT : World.setCell v4 ⟨T, 11, none⟩ (.slice (some ⟨g9, 0, none⟩) (S.lN + 1) c9) = v4.setRow T (stArr { S with lA := some ⟨g9, 0, none⟩, lN := S.lN + 1, lC := c9 }) := setCell_eq_setRow _ _ _ _ _ _ _ (D.get 0 rfl)
                    have D9 := D.put 0 rfl (cs' := stArr { S with lA := some ⟨g9, 0, none⟩, lN := S.lN + 1, lC := c9 }) (B' := bx4 { S with lA := some ⟨g9, 0, none⟩, lN := S.lN + 1, lC := c9 } T V C w.heap.size g zn cs cb cq cd ch) rfl
                    have M9 := M.box (x := T) (.head _) (stArr { S with lA := some ⟨g9, 0, none⟩, lN := S.lN + 1, lC := c9 })
                    refine Tree.only (by rfl) (wp_store_slice_c 22 (.tmp 102) (.tmp 100) rfl T 11 (some ⟨g9, 0, none⟩) (S.lN + 1) c9 rfl rfl ⟨_, cell_of_row _ _ 11 _ _ _ (D.get 0 rfl)⟩ (free_row_c (D.get 0 rfl)) ints_info1 ?_)
                    rw [eT]
                    clear eT D M
                    have D := D9
                    have M := M9
                    clear D9 M9
                    generalize World.setRow v4 T _ = v5 at *
                    refine ⟨(six_row (D.get 2 rfl)).2.1, ?_⟩
                    simp only [Act.put]
                    refine Tree.ends ?_
                    go_wp2_with fail
                    go_meet
                    exact ⟨_, g9, c9, l9, _, ⟨by omega, by omega⟩, hl0, D, M⟩
              case rest =>
                clear D M
                obtain ⟨k7, g8, c8, l9, CV2, hl9, hl0, D, M⟩ := hcut
                go_upto_region 21 with fail
                go_cut [] (fun wx => ∃ (k7 g9 c9 : Nat) (p9 : Int) (CV : List Value), (LL = [] → p9 = 0) ∧ BxD w wx (bx4 { S with lA := some ⟨g8, 0, none⟩, lN := S.lN + 1, lC := c8, pA := some ⟨g9, 0, none⟩, pN := S.pN + 1, pC := c9 } T V C w.heap.size g zn cs cb cq cd ch) (w.alloc (stRow st0)).heap.size q LL k7 ∧ MkL wx q [T, V, C, w.heap.size] { S with lA := some ⟨g8, 0, none⟩, lN := S.lN + 1, lC := c8, pA := some ⟨g9, 0, none⟩, pN := S.pN + 1, pC := c9 } (Z.set i ⟨st, du, L⟩) ⟨Cn.live ++ [l9], Cn.pend ++ [p9]⟩ E CV)
                case first =>
                  refine Tree.start (fun _ => True) (.take 0 (.take 1 (.take 3 (.fork 2 (.only 4 (.take 5 (.only 6 (.only 7 (.take 8 (.take 9 (.only 10 (.done)))))))) 4 (.take 5 (.fork 2 (.only 6 (.only 7 (.take 8 (.take 9 (.only 10 (.done)))))) 6 (.only 2 (.only 7 (.take 8 (.take 9 (.only 10 (.done)))))))))))) (by kernel_rfl) (by kernel_rfl) (by kernel_rfl) (by kernel_rfl) (show _ from trivial) ?_
                  simp only [Tree.T.map, List.getElem?_toArray, List.getElem?_cons_zero, List.getElem?_cons_succ]
                  repeat (first | (refine Tree.take ?_ (by rfl) ?_ ?_; rotate_left; (· rintro w9 -; go_simp; (try rw [if_neg (by omega)]); all_goals (with_reducible rfl)); simp only [Act.put, List.setIfInBounds_toArray, List.set_cons_zero, List.set_cons_succ]))
                  have D9 := D.drew
                  have M9 := M.on (Below.refl _ _).drew
                  clear D M
                  have D := D9
                  have M := M9
                  clear D9 M9
                  generalize World.drew _ = v0 at *
                  have hcl := st_cell (D.get 0 rfl) (j := 12) rfl
                  refine Tree.fork (by rfl) (by rfl) ?_ ?_
                  · refine Tree.wp_make (slV S.pA S.pN S.pC) v0 ?_ ⟨trivial, ?_⟩
                    · go_simp
                    simp only [Act.put, List.setIfInBounds_toArray, List.set_cons_zero, List.set_cons_succ]
                    refine Tree.only (by rfl) (Tree.wp_call 17 _ ?_ (next_any _ _ _ _ _ 8 D.dd HLL.out (by omega) (by omega)) ?_)
                    · go_simp
                    rintro r9 v1 ⟨rfl, hd, hgr, hsz⟩
                    have D9 := D.next hd hgr
                    have M9 := M.touch hgr (fun z hz => .inl (by have := Option.some.inj hz; omega))
                    clear D M hd hgr hsz hcl
                    have D := D9
                    have M := M9
                    clear D9 M9
                    have hcl := st_cell (D.get 0 rfl) (j := 12) rfl
                    refine ⟨_, rfl, trivial, ?_⟩
                    simp only [Act.put, List.setIfInBounds_toArray, List.set_cons_zero, List.set_cons_succ]
                    have hp9 := nxt_range LL k7 8 (by omega)
                    have hp0 : LL = [] → nxt LL k7 8 = 0 := (fun h => by rw [h]; exact nxt_none _ _)
                    generalize nxt LL k7 8 = m9 at *
                    have hw9 : IntKind.i64.wrap (m9.tdiv 7) = m9.tdiv 7 := IntWalk.i64_in _ (by rw [Int.tdiv_eq_ediv_of_nonneg hp9.1]; omega)
                    repeat (first | (refine Tree.take ?_ (by rfl) ?_ ?_; rotate_left; (· rintro w9 -; go_simp; (try rw [if_neg (by omega)]); all_goals (with_reducible rfl)); simp only [Act.put, List.setIfInBounds_toArray, List.set_cons_zero, List.set_cons_succ]))
                    have hpp : LL = [] → (m9.tdiv 7) = 0 := (fun h => by rw [hp0 h]; rfl)
                    clear hw9
                    generalize m9.tdiv 7 = p9 at *
                    have hOne := heap_alloc_new v1 (.cells #[.int .i64 p9] 3 (0, 0))
                    have D9 := D.al' (.cells #[.int .i64 p9] 3 (0, 0))
                    have M9 := M.on ((Below.refl _ _).alloc (Nat.le_refl _) (.cells #[.int .i64 p9] 3 (0, 0)))
                    clear D M hcl
                    have D := D9
                    have M := M9
                    clear D9 M9
                    refine Tree.only (by rfl) (Tree.wp_make (.slice (some ⟨v1.heap.size, 0, none⟩) 1 1) (v1.alloc (.cells #[.int .i64 p9] 3 (0, 0))) (build_int 108 _ rfl (by rfl)) ⟨trivial, ?_⟩)
                    simp only [Act.put, List.setIfInBounds_toArray, List.set_cons_zero, List.set_cons_succ]
                    generalize v1.heap.size = GB at *
                    generalize v1.alloc (.cells #[.int .i64 p9] 3 (0, 0)) = v3 at *
                    have hcl := st_cell (D.get 0 rfl) (j := 12) rfl
                    clear hcl
                    have hq3 := dice_lt D.dd
                    refine Tree.only (by rfl) (Rws.wp_append_one riOk (.tmp 105) (.tmp 109) rfl (q + 1) (slV S.pA S.pN S.pC) S.pN Cn.pend rfl (by rw [ri_all]; exact M.po) GB p9 rfl hOne (by have := hlN.out; have := hpN.out; omega) (by omega) ?_)
                    intro g9 c9 v4 own9 hgrow9 hat
                    rw [ri_all] at own9
                    have D9 := D.pend M hgrow9
                    have M9 := M.pend (a := some ⟨g9, 0, none⟩) (n := S.pN + 1) (c := c9) D.below hgrow9 own9 (fun b hb => by have h2 := Option.some.inj (show some g9 = some b from hb); subst h2; exact hat)
                    clear D M hOne hgrow9 own9 hat
                    have D := D9
                    have M := M9
                    clear D9 M9
                    refine ⟨trivial, ?_⟩
                    simp only [Act.put, List.setIfInBounds_toArray, List.set_cons_zero, List.set_cons_succ]
                    repeat (first | (refine Tree.take ?_ (by rfl) ?_ ?_; rotate_left; (· rintro w9 -; go_simp; (try rw [if_neg (by omega)]); all_goals (with_reducible rfl)); simp only [Act.put, List.setIfInBounds_toArray, List.set_cons_zero, List.set_cons_succ]))
                    have eT : World.setCell v4 ⟨T, 12, none⟩ (.slice (some ⟨g9, 0, none⟩) (S.pN + 1) c9) = v4.setRow T (stArr { S with lA := some ⟨g8, 0, none⟩, lN := S.lN + 1, lC := c8, pA := some ⟨g9, 0, none⟩, pN := S.pN + 1, pC := c9 }) := setCell_eq_setRow _ _ _ _ _ _ _ (D.get 0 rfl)
                    have D9 := D.put 0 rfl (cs' := stArr { S with lA := some ⟨g8, 0, none⟩, lN := S.lN + 1, lC := c8, pA := some ⟨g9, 0, none⟩, pN := S.pN + 1, pC := c9 }) (B' := bx4 { S with lA := some ⟨g8, 0, none⟩, lN := S.lN + 1, lC := c8, pA := some ⟨g9, 0, none⟩, pN := S.pN + 1, pC := c9 } T V C w.heap.size g zn cs cb cq cd ch) rfl
                    have M9 := M.box (x := T) (.head _) (stArr { S with lA := some ⟨g8, 0, none⟩, lN := S.lN + 1, lC := c8, pA := some ⟨g9, 0, none⟩, pN := S.pN + 1, pC := c9 })
                    refine Tree.only (by rfl) (wp_store_slice_c 22 (.tmp 112) (.tmp 110) rfl T 12 (some ⟨g9, 0, none⟩) (S.pN + 1) c9 rfl rfl ⟨_, cell_of_row _ _ 12 _ _ _ (D.get 0 rfl)⟩ (free_row_c (D.get 0 rfl)) ints_info1 ?_)
                    rw [eT]
                    clear eT D M
                    have D := D9
                    have M := M9
                    clear D9 M9
                    generalize World.setRow v4 T _ = v5 at *
                    refine ⟨trivial, ?_⟩
                    simp only [Act.put]
                    refine Tree.ends ?_
                    go_wp2_with fail
                    go_meet
                    exact ⟨_, g9, c9, p9, _, hpp, D, M⟩
                  · refine Tree.wp_call 17 _ ?_ (next_any _ _ _ _ _ 8 D.dd HLL.out (by omega) (by omega)) ?_
                    · go_simp
                    rintro r9 v1 ⟨rfl, hd, hgr, hsz⟩
                    have D9 := D.next hd hgr
                    have M9 := M.touch hgr (fun z hz => .inl (by have := Option.some.inj hz; omega))
                    clear D M hd hgr hsz hcl
                    have D := D9
                    have M := M9
                    clear D9 M9
                    have hcl := st_cell (D.get 0 rfl) (j := 12) rfl
                    refine ⟨_, rfl, trivial, ?_⟩
                    simp only [Act.put, List.setIfInBounds_toArray, List.set_cons_zero, List.set_cons_succ]
                    have hp9 := nxt_range LL k7 8 (by omega)
                    have hp0 : LL = [] → nxt LL k7 8 = 0 := (fun h => by rw [h]; exact nxt_none _ _)
                    generalize nxt LL k7 8 = m9 at *
                    have hw9 : IntKind.i64.wrap (m9.tdiv 7) = m9.tdiv 7 := IntWalk.i64_in _ (by rw [Int.tdiv_eq_ediv_of_nonneg hp9.1]; omega)
                    repeat (first | (refine Tree.take ?_ (by rfl) ?_ ?_; rotate_left; (· rintro w9 -; go_simp; (try rw [if_neg (by omega)]); all_goals (with_reducible rfl)); simp only [Act.put, List.setIfInBounds_toArray, List.set_cons_zero, List.set_cons_succ]))
                    have hpp : LL = [] → (m9.tdiv 7) = 0 := (fun h => by rw [hp0 h]; rfl)
                    clear hw9
                    generalize m9.tdiv 7 = p9 at *
                    refine Tree.fork (by rfl) (by rfl) ?_ ?_
                    · refine Tree.wp_make (slV S.pA S.pN S.pC) v1 ?_ ⟨trivial, ?_⟩
                      · go_simp
                      simp only [Act.put, List.setIfInBounds_toArray, List.set_cons_zero, List.set_cons_succ]
                      have hOne := heap_alloc_new v1 (.cells #[.int .i64 p9] 3 (0, 0))
                      have D9 := D.al' (.cells #[.int .i64 p9] 3 (0, 0))
                      have M9 := M.on ((Below.refl _ _).alloc (Nat.le_refl _) (.cells #[.int .i64 p9] 3 (0, 0)))
                      clear D M hcl
                      have D := D9
                      have M := M9
                      clear D9 M9
                      refine Tree.only (by rfl) (Tree.wp_make (.slice (some ⟨v1.heap.size, 0, none⟩) 1 1) (v1.alloc (.cells #[.int .i64 p9] 3 (0, 0))) (build_int 108 _ rfl (by rfl)) ⟨trivial, ?_⟩)
                      simp only [Act.put, List.setIfInBounds_toArray, List.set_cons_zero, List.set_cons_succ]
                      generalize v1.heap.size = GB at *
                      generalize v1.alloc (.cells #[.int .i64 p9] 3 (0, 0)) = v3 at *
                      have hcl := st_cell (D.get 0 rfl) (j := 12) rfl
                      clear hcl
                      have hq3 := dice_lt D.dd
                      refine Tree.only (by rfl) (Rws.wp_append_one riOk (.tmp 105) (.tmp 109) rfl (q + 1) (slV S.pA S.pN S.pC) S.pN Cn.pend rfl (by rw [ri_all]; exact M.po) GB p9 rfl hOne (by have := hlN.out; have := hpN.out; omega) (by omega) ?_)
                      intro g9 c9 v4 own9 hgrow9 hat
                      rw [ri_all] at own9
                      have D9 := D.pend M hgrow9
                      have M9 := M.pend (a := some ⟨g9, 0, none⟩) (n := S.pN + 1) (c := c9) D.below hgrow9 own9 (fun b hb => by have h2 := Option.some.inj (show some g9 = some b from hb); subst h2; exact hat)
                      clear D M hOne hgrow9 own9 hat
                      have D := D9
                      have M := M9
                      clear D9 M9
                      refine ⟨trivial, ?_⟩
                      simp only [Act.put, List.setIfInBounds_toArray, List.set_cons_zero, List.set_cons_succ]
                      repeat (first | (refine Tree.take ?_ (by rfl) ?_ ?_; rotate_left; (· rintro w9 -; go_simp; (try rw [if_neg (by omega)]); all_goals (with_reducible rfl)); simp only [Act.put, List.setIfInBounds_toArray, List.set_cons_zero, List.set_cons_succ]))
                      have eT : World.setCell v4 ⟨T, 12, none⟩ (.slice (some ⟨g9, 0, none⟩) (S.pN + 1) c9) = v4.setRow T (stArr { S with lA := some ⟨g8, 0, none⟩, lN := S.lN + 1, lC := c8, pA := some ⟨g9, 0, none⟩, pN := S.pN + 1, pC := c9 }) := setCell_eq_setRow _ _ _ _ _ _ _ (D.get 0 rfl)
                      have D9 := D.put 0 rfl (cs' := stArr { S with lA := some ⟨g8, 0, none⟩, lN := S.lN + 1, lC := c8, pA := some ⟨g9, 0, none⟩, pN := S.pN + 1, pC := c9 }) (B' := bx4 { S with lA := some ⟨g8, 0, none⟩, lN := S.lN + 1, lC := c8, pA := some ⟨g9, 0, none⟩, pN := S.pN + 1, pC := c9 } T V C w.heap.size g zn cs cb cq cd ch) rfl
                      have M9 := M.box (x := T) (.head _) (stArr { S with lA := some ⟨g8, 0, none⟩, lN := S.lN + 1, lC := c8, pA := some ⟨g9, 0, none⟩, pN := S.pN + 1, pC := c9 })
                      refine Tree.only (by rfl) (wp_store_slice_c 22 (.tmp 112) (.tmp 110) rfl T 12 (some ⟨g9, 0, none⟩) (S.pN + 1) c9 rfl rfl ⟨_, cell_of_row _ _ 12 _ _ _ (D.get 0 rfl)⟩ (free_row_c (D.get 0 rfl)) ints_info1 ?_)
                      rw [eT]
                      clear eT D M
                      have D := D9
                      have M := M9
                      clear D9 M9
                      generalize World.setRow v4 T _ = v5 at *
                      refine ⟨trivial, ?_⟩
                      simp only [Act.put]
                      refine Tree.ends ?_
                      go_wp2_with fail
                      go_meet
                      exact ⟨_, g9, c9, p9, _, hpp, D, M⟩
                    · have hOne := heap_alloc_new v1 (.cells #[.int .i64 p9] 3 (0, 0))
                      have D9 := D.al' (.cells #[.int .i64 p9] 3 (0, 0))
                      have M9 := M.on ((Below.refl _ _).alloc (Nat.le_refl _) (.cells #[.int .i64 p9] 3 (0, 0)))
                      clear D M hcl
                      have D := D9
                      have M := M9
                      clear D9 M9
                      refine Tree.wp_make (.slice (some ⟨v1.heap.size, 0, none⟩) 1 1) (v1.alloc (.cells #[.int .i64 p9] 3 (0, 0))) (build_int 108 _ rfl (by rfl)) ⟨trivial, ?_⟩
                      simp only [Act.put, List.setIfInBounds_toArray, List.set_cons_zero, List.set_cons_succ]
                      generalize v1.heap.size = GB at *
                      generalize v1.alloc (.cells #[.int .i64 p9] 3 (0, 0)) = v3 at *
                      have hcl := st_cell (D.get 0 rfl) (j := 12) rfl
                      refine Tree.only (by rfl) (Tree.wp_make (slV S.pA S.pN S.pC) v3 ?_ ⟨trivial, ?_⟩)
                      · go_simp
                      simp only [Act.put, List.setIfInBounds_toArray, List.set_cons_zero, List.set_cons_succ]
                      clear hcl
                      have hq3 := dice_lt D.dd
                      refine Tree.only (by rfl) (Rws.wp_append_one riOk (.tmp 105) (.tmp 109) rfl (q + 1) (slV S.pA S.pN S.pC) S.pN Cn.pend rfl (by rw [ri_all]; exact M.po) GB p9 rfl hOne (by have := hlN.out; have := hpN.out; omega) (by omega) ?_)
                      intro g9 c9 v4 own9 hgrow9 hat
                      rw [ri_all] at own9
                      have D9 := D.pend M hgrow9
                      have M9 := M.pend (a := some ⟨g9, 0, none⟩) (n := S.pN + 1) (c := c9) D.below hgrow9 own9 (fun b hb => by have h2 := Option.some.inj (show some g9 = some b from hb); subst h2; exact hat)
                      clear D M hOne hgrow9 own9 hat
                      have D := D9
                      have M := M9
                      clear D9 M9
                      refine ⟨trivial, ?_⟩
                      simp only [Act.put, List.setIfInBounds_toArray, List.set_cons_zero, List.set_cons_succ]
                      repeat (first | (refine Tree.take ?_ (by rfl) ?_ ?_; rotate_left; (· rintro w9 -; go_simp; (try rw [if_neg (by omega)]); all_goals (with_reducible rfl)); simp only [Act.put, List.setIfInBounds_toArray, List.set_cons_zero, List.set_cons_succ]))
                      have eT : World.setCell v4 ⟨T, 12, none⟩ (.slice (some ⟨g9, 0, none⟩) (S.pN + 1) c9) = v4.setRow T (stArr { S with lA := some ⟨g8, 0, none⟩, lN := S.lN + 1, lC := c8, pA := some ⟨g9, 0, none⟩, pN := S.pN + 1, pC := c9 }) := setCell_eq_setRow _ _ _ _ _ _ _ (D.get 0 rfl)
                      have D9 := D.put 0 rfl (cs' := stArr { S with lA := some ⟨g8, 0, none⟩, lN := S.lN + 1, lC := c8, pA := some ⟨g9, 0, none⟩, pN := S.pN + 1, pC := c9 }) (B' := bx4 { S with lA := some ⟨g8, 0, none⟩, lN := S.lN + 1, lC := c8, pA := some ⟨g9, 0, none⟩, pN := S.pN + 1, pC := c9 } T V C w.heap.size g zn cs cb cq cd ch) rfl
                      have M9 := M.box (x := T) (.head _) (stArr { S with lA := some ⟨g8, 0, none⟩, lN := S.lN + 1, lC := c8, pA := some ⟨g9, 0, none⟩, pN := S.pN + 1, pC := c9 })
                      refine Tree.only (by rfl) (wp_store_slice_c 22 (.tmp 112) (.tmp 110) rfl T 12 (some ⟨g9, 0, none⟩) (S.pN + 1) c9 rfl rfl ⟨_, cell_of_row _ _ 12 _ _ _ (D.get 0 rfl)⟩ (free_row_c (D.get 0 rfl)) ints_info1 ?_)
                      rw [eT]
                      clear eT D M
                      have D := D9
                      have M := M9
                      clear D9 M9
                      generalize World.setRow v4 T _ = v5 at *
                      refine ⟨trivial, ?_⟩
                      simp only [Act.put]
                      refine Tree.ends ?_
                      go_wp2_with fail
                      go_meet
                      exact ⟨_, g9, c9, p9, _, hpp, D, M⟩
                case rest =>
                  clear D M
                  obtain ⟨k6, g7, c7, p9, CV3, hp0, D, M⟩ := hcut
                  have hn6 : LL = [] → nxt LL k6 7 = 0 := (fun h => by rw [h]; exact nxt_none _ _)
                  by_cases h6 : nxt LL k6 7 = 6
                  · have hb6 : (nxt LL k6 7 == 6) = true := by simpa using h6
                    go_wp2_with (first
                      | (go_at_call 17; ((with_reducible refine (next_any _ _ _ _ _ 7 D.dd HLL.out (by omega) (by omega)).mono ?_); rintro r9 w8 ⟨rfl, hd, hgr, hsz⟩; have D8 := D.next hd hgr; have M8 := M.touch hgr (fun z hz => .inl (by have := Option.some.inj hz; omega)); clear D M hd hgr hsz; have D := D8; have M := M8; clear D8 M8))
                      | ((refine load_mid 39 (.tmp 117) T 14 [.int .i64 S.eg, .slice S.iA S.iN S.iC, .slice S.rA S.rN S.rC] ?_ (D.get 0 rfl) ?_ Try.underlying39 ?_ ?_ ?_); (· rfl); (· rfl); (· rfl); (· exact epo_info); simp only [Act.put, List.setIfInBounds_toArray, List.set_cons_zero, List.set_cons_succ])
                      | (go_at_call 21; ((with_reducible refine (refRetire_any _ E (i : Int) S.eg S.iA S.rA S.iN S.iC S.rN S.rC _ M.eo (by omega)).mono ?_); rintro r9 w8 ⟨eg2, ea2, en2, ec2, eb2, em2, ed2, rfl, le2, h9⟩; have l9e := le2.mono (fun b _ h => M.fresh D b h); have D8 := D.on h9; have M8 := (M.on h9).epo l9e; have hm2 := le2.z.length; have hm1 := M.eo.z.length; clear D M h9 le2 l9e; have D := D8; have M := M8; clear D8 M8))
                      | ((refine store_mid 39 (.tmp 123) (.tmp 121) T 14 #[.int .i64 eg2, .slice ea2 en2 ec2, .slice eb2 em2 ed2] (stArr { S with lA := some ⟨g8, 0, none⟩, lN := S.lN + 1, lC := c8, pA := some ⟨g7, 0, none⟩, pN := S.pN + 1, pC := c7, eg := eg2, iA := ea2, iN := en2, iC := ec2, rA := eb2, rN := em2, rC := ed2 }) ?_ ?_ (D.get 0 rfl) ?_ ?_ ?_ ?_ ?_); (· rfl); (· rfl); (· show 14 + 3 ≤ 48; decide); (· exact epo_info); (· simp [Value.oneCell']); (· rfl); simp only [Act.put]; have D8 := D.put 0 rfl (B' := bx4 { S with lA := some ⟨g8, 0, none⟩, lN := S.lN + 1, lC := c8, pA := some ⟨g7, 0, none⟩, pN := S.pN + 1, pC := c7, eg := eg2, iA := ea2, iN := en2, iC := ec2, rA := eb2, rN := em2, rC := ed2 } T V C w.heap.size g zn cs cb cq cd ch) rfl; have M8 := M.box (x := T) (.head _) (stArr { S with lA := some ⟨g8, 0, none⟩, lN := S.lN + 1, lC := c8, pA := some ⟨g7, 0, none⟩, pN := S.pN + 1, pC := c7, eg := eg2, iA := ea2, iN := en2, iC := ec2, rA := eb2, rN := em2, rC := ed2 }); clear D M; have D := D8; have M := M8; clear D8 M8))
                    have hrl := ret_len E (i : Int)
                    go_roundw
                    case measure => simp [intOf]; omega
                    case rel => exact ⟨i + 1, _, { S with lA := some ⟨g8, 0, none⟩, lN := S.lN + 1, lC := c8, pA := some ⟨g7, 0, none⟩, pN := S.pN + 1, pC := c7, eg := eg2, iA := ea2, iN := en2, iC := ec2, rA := eb2, rN := em2, rC := ed2 }, _, _, _, _, by go_num, by omega, D, M, Lib.hid (hF.out.step hlt ⟨rfl, rfl, rfl, rfl, rfl, rfl⟩ ⟨rfl, rfl, rfl⟩ ⟨rfl, rfl⟩ ⟨rfl, rfl⟩ hl9 (by have := hLn.out; omega) (by show em2 ≤ i + 1; omega) (fun h => by have := hn6 h; omega))⟩
                  · have hb6 : (nxt LL k6 7 == 6) = false := by simpa using h6
                    go_wp2_with (first
                      | (go_at_call 17; ((with_reducible refine (next_any _ _ _ _ _ 7 D.dd HLL.out (by omega) (by omega)).mono ?_); rintro r9 w8 ⟨rfl, hd, hgr, hsz⟩; have D8 := D.next hd hgr; have M8 := M.touch hgr (fun z hz => .inl (by have := Option.some.inj hz; omega)); clear D M hd hgr hsz; have D := D8; have M := M8; clear D8 M8)))
                    go_roundw
                    case measure => simp [intOf]; omega
                    case rel => exact ⟨i + 1, _, { S with lA := some ⟨g8, 0, none⟩, lN := S.lN + 1, lC := c8, pA := some ⟨g7, 0, none⟩, pN := S.pN + 1, pC := c7 }, _, _, _, _, by go_num, by omega, D, M, Lib.hid (hF.out.step hlt ⟨rfl, rfl, rfl, rfl, rfl, rfl⟩ ⟨rfl, rfl, rfl⟩ ⟨rfl, rfl⟩ ⟨rfl, rfl⟩ hl9 (by have := hLn.out; omega) (by show S.rN ≤ i + 1; omega) (fun h => ⟨(hsd h).1, (hsd h).2, List.length_eq_zero_iff.1 (by have := hLn.out; have := hN0 h; omega), hl0 h, hp0 h, (hF.out.none h).2.2.2⟩))⟩
      · obtain rfl : i = zn := by omega
        have hT0 : _ = some (stRow S) := D.get 0 rfl
        have hR0 : _ = some (stRow st0) := D.get 3 rfl
        go_wp2_with (first
          | ((with_reducible refine Plan.load_lit 58 (.tmp 7) T ?_ hT0 Try.underlying58 ?_ ?_ ?_); (· rfl); (· rfl); (· exact st_info); simp only [Act.put, List.setIfInBounds_toArray, List.set_cons_zero, List.set_cons_succ])
          | ((with_reducible refine Plan.store_lit 58 (.tmp 2) _ w.heap.size (stArr S) hR0 ?_ ?_ ?_ ?_ ?_ ?_); rotate_left; (· rfl); (· exact st_info); (· rfl); (· simp [Value.oneCell']); rotate_left; (· rfl); simp only [Act.put]))
        exact bodyPost_ret (results_cell_row rfl _ _ _ _ _ _ _ rfl (setRow_heap _ _ _ (stArr S) _ _ hR0) Try.underlying58 rfl st_info) rfl ⟨q, i, g, cs, cb, cq, cd, ch, k3, S, Z, Cn, E, CV, rfl, below_setRow D.hb (Nat.le_refl _) _, (by omega), hzr, ⟨s1, s2⟩, hk3, hk0, ⟨hgz, hgs, hgb, hgq, hgd, hgh⟩, (M.box (x := w.heap.size) (by simp) (stArr S)).sub (fun b hb => absurd hb (by simp)), hF.out⟩
end Go.Proofs.Ythhggiifbldaeaa.Ents

/- What made gives, as a state that is read; stores into its lists. -/
namespace Go.Proofs.Ythhggiifbldaeaa.Ents
open Go.RowKit Plan ZnsMath EntMath CntMath EpoMath LayMath VicMath
section
variable {W W' : World} {q : Nat} {bx : List Nat} {S : Sv} {Z : List Zone} {C : Cnt} {E : Epo} {CV : List Value}
theorem MkL.vlist (M : MkL W q bx S Z C E CV) : VList W (fun b => q < b) S Z C E := by
  obtain ⟨-, a1, c1, e1, h1⟩ := owns_zones (F := fun b => q < b) M.zo (M.zc.mono fun b _ h => h.1) (fun b hb => by have := (M.zo.lt b hb).1; omega)
  obtain ⟨a2, c2, e2, h2⟩ := own_ilist (F := fun b => q < b) M.lo (fun b hb => by have := (M.lo.lt b hb).1; omega)
  obtain ⟨a3, c3, e3, h3⟩ := own_ilist (F := fun b => q < b) M.po (fun b hb => by have := (M.po.lt b hb).1; omega)
  unfold slV at e1 e2 e3
  injection e1 with x1 _ y1
  injection e2 with x2 _ y2
  injection e3 with x3 _ y3
  subst x1 y1 x2 y2 x3 y3
  exact ⟨h1, ⟨h2, h3⟩, M.eo.mono fun b _ h => h.1⟩
theorem MkL.liveAt (M : MkL W q bx S Z C E CV) (h : 0 < S.lN) : ∃ g, S.lA = some ⟨g, 0, none⟩ ∧ q < g := by
  rcases M.lo.2 with ⟨_, h0⟩ | ⟨g, cap, cur, e, hb, _⟩
  · have h1 := M.lo.1
    rw [h0] at h1
    simp at h1
    omega
  · unfold slV at e
    injection e with x1 _ _
    exact ⟨g, x1, by omega⟩
theorem cell_grown (w : World) (g o : Nat) (v : Value) : w.grownBy (w.setCell ⟨g, o, none⟩ v) (some g) := cells_grown g [v] o w
theorem MkL.stz (M : MkL W q bx S Z C E CV) {g : Nat} (hg : S.zA = some ⟨g, 0, none⟩) {j : Nat} {z : Zone} (hz : Z[j]? = some z) (v : Int) :
    MkL (W.setCell ⟨g, j * 3, none⟩ (.int .i64 v)) q bx S (Z.set j ⟨v, z.durable, z.sectors⟩) C E (CV.set (j * 3) (.int .i64 v)) := by
  have hgr := cell_grown W g (j * 3) (.int .i64 v)
  have hz0 : (slV S.zA S.zN S.zC).ownBlock = some g := by unfold slV; rw [hg]; rfl
  have hsm : Same (Fr q bx S) W (W.setCell ⟨g, j * 3, none⟩ (.int .i64 v)) := mk_same hgr fun y hy h => h.2.2.1 (by rw [hz0]; exact hy)
  have hne : ∀ (v : Value) n xs, W.ownsRow (q + 1) 3 1 v n xs → ∀ y, some g = some y → v.ownBlock ≠ some y := fun v n xs h y hy e => by
    rcases owns_ne M.zo h (by decide) with h1 | h1
    · rw [hz0] at h1; cases h1
    · exact h1 (by rw [hz0, e, hy])
  have hzo2 : W.ownsRow (q + 1) 69 3 (.slice (some ⟨g, 0, none⟩) S.zN S.zC) S.zN CV := by
    have h := M.zo
    unfold slV at h
    rw [hg] at h
    exact h
  refine ⟨?_, (M.zc.st hz v).on hsm, mk_kept M.lo hgr (hne _ _ _ M.lo), mk_kept M.po hgr (hne _ _ _ M.po), M.eo.on hsm, M.ne, M.nb⟩
  unfold slV
  rw [hg]
  exact e_owns_cell hzo2 _ _
theorem MkL.lst (M : MkL W q bx S Z C E CV) {g : Nat} (hg : S.lA = some ⟨g, 0, none⟩) (j : Nat) (v : Int) :
    MkL (W.setCell ⟨g, j, none⟩ (.int .i64 v)) q bx S Z ⟨C.live.set j v, C.pend⟩ E CV := by
  have hgr := cell_grown W g j (.int .i64 v)
  have hl0 : (slV S.lA S.lN S.lC).ownBlock = some g := by unfold slV; rw [hg]; rfl
  have hsm : Same (Fr q bx S) W (W.setCell ⟨g, j, none⟩ (.int .i64 v)) := mk_same hgr fun y hy h => h.2.2.2.1 (by rw [hl0]; exact hy)
  have hlo2 : W.ownsRow (q + 1) 3 1 (.slice (some ⟨g, 0, none⟩) S.lN S.lC) S.lN (intC C.live) := by
    have h := M.lo
    unfold slV at h
    rw [hg] at h
    exact h
  refine ⟨mk_kept M.zo hgr fun y hy e => ?_, M.zc.on hsm, ?_, mk_kept M.po hgr fun y hy e => M.ne g hl0 (by rw [e, hy]), M.eo.on hsm, M.ne, M.nb⟩
  · rcases owns_ne M.zo M.lo (by decide) with h1 | h1
    · rw [h1] at e; cases e
    · exact h1 (by rw [e, hl0, hy])
  · unfold slV
    rw [hg]
    have h := e_owns_cell hlo2 j (.int .i64 v)
    rw [show intC (C.live.set j v) = (intC C.live).set j (.int .i64 v) from by unfold intC; rw [List.map_set]]
    exact h
theorem MkL.zcell (M : MkL W q bx S Z C E CV) {g : Nat} (hg : S.zA = some ⟨g, 0, none⟩) {j : Nat} (hj : j < Z.length) : (∃ u, W.cell? ⟨g, j * 3, none⟩ = some u) ∧ W.frozen? ⟨g, j * 3, none⟩ = false := by
  have h := M.zo
  unfold slV at h
  rw [hg] at h
  obtain ⟨c1, _, _, c4, _⟩ := odd_cells h M.zc (List.getElem?_eq_getElem hj)
  exact ⟨⟨_, c1⟩, c4⟩
theorem MkL.lcell (M : MkL W q bx S Z C E CV) {g : Nat} (hg : S.lA = some ⟨g, 0, none⟩) {j : Nat} (hj : j < S.lN) : (∃ u, W.cell? ⟨g, j, none⟩ = some u) ∧ W.frozen? ⟨g, j, none⟩ = false := by
  have h := M.lo
  unfold slV at h
  rw [hg] at h
  have hl : (intC C.live).length = S.lN := by have := h.1; omega
  obtain ⟨u, hu⟩ : ∃ u, (intC C.live)[j]? = some u := ⟨_, List.getElem?_eq_getElem (by omega)⟩
  have c1 := h.cells (g := g) rfl j u hu
  rw [add_lit0] at c1
  exact ⟨⟨_, c1⟩, owns_free5 h _⟩
end
/-- a box that a store into a list of the making leaves -/
theorem box_cell {w : World} {T g o : Nat} {v : Value} {x : Obj} (h : w.heap[T]? = some x) (hne : T ≠ g) : (w.setCell ⟨g, o, none⟩ v).heap[T]? = some x := (Below.heap_setCell w ⟨g, o, none⟩ v T hne).trans h
end Go.Proofs.Ythhggiifbldaeaa.Ents
