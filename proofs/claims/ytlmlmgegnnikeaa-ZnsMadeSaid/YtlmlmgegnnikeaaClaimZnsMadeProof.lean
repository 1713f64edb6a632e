/- ZnsMade: the program answers as the document for the devices that the maker makes, whole and spoilt. No condition. -/
import Derived.Test.YtlmlmgegnnikeaaPack12
import Derived.Test.YtlmlmgegnnikeaaRows
import Derived.WalkKit
import Derived.ProofKit
import Derived.SliceStrings
import Derived.OpenShut
import Derived.ShutString
import Derived.ChangeOld
import Derived.Carry
import Derived.Below

/- Zoned devices as plain lists: commands lead from valid devices to valid ones. -/
namespace Go.Proofs.Ytlmlmgegnnikeaa
open ZnsMath

theorem right_all {Z : List Zone} {size : Int} (h : rightsB Z size = true) {i : Nat} {z : Zone} (hz : Z[i]? = some z) : rightB z size = true := by
  unfold rightsB at h
  rw [List.all_eq_true] at h
  exact h z (List.mem_of_getElem? hz)
theorem right_set {Z : List Zone} {size : Int} (h : rightsB Z size = true) (i : Nat) {z : Zone} (hz : rightB z size = true) : rightsB (Z.set i z) size = true := by
  unfold rightsB at h ⊢
  rw [List.all_eq_true] at h ⊢
  intro y hy
  rcases List.mem_or_eq_of_mem_set hy with h1 | h1
  · exact h y h1
  · rw [h1]; exact hz
theorem right_iff (z : Zone) (size : Int) : rightB z size = true ↔ (0 ≤ z.state ∧ z.state ≤ 5 ∧ (z.sectors.length : Int) ≤ size ∧ 0 ≤ z.durable ∧ z.durable ≤ z.sectors.length) ∧ sizesB z.sectors = true ∧
    (if z.state = 0 ∨ z.state = 5 then z.sectors.length = 0 else if z.state = 4 then z.durable = z.sectors.length else (z.sectors.length : Int) < size) := by
  unfold rightB
  rw [Bool.and_eq_true, Bool.and_eq_true, decide_eq_true_eq]
  constructor
  · rintro ⟨⟨h1, h2⟩, h3⟩
    refine ⟨by omega, h2, ?_⟩
    split at h3
    · rename_i h; rw [if_pos h]; simpa using h3
    · rename_i h
      rw [if_neg h]
      split at h3
      · rename_i h4; rw [if_pos h4]; simpa using h3
      · rename_i h4; rw [if_neg h4]; simpa using h3
  · rintro ⟨h1, h2, h3⟩
    refine ⟨⟨by omega, h2⟩, ?_⟩
    split at h3
    · rename_i h; rw [if_pos h]; simpa using h3
    · rename_i h
      rw [if_neg h]
      split at h3
      · rename_i h4; rw [if_pos h4]; simpa using h3
      · rename_i h4; rw [if_neg h4]; simpa using h3
/-- a valid device with another zone -/
theorem valid_with {D : Dev} {k : Nat} {y z : Zone} (hc : checkE D = 0) (hk : D.zones[k]? = some y) (hz : rightB z D.size = true)
    (ho : countO D.zones + (if openB z.state = true then 1 else 0) ≤ D.maxOpen.toNat + (if openB y.state = true then 1 else 0))
    (ha : countA D.zones + (if activeB z.state = true then 1 else 0) ≤ D.maxActive.toNat + (if activeB y.state = true then 1 else 0)) : checkE (withZ D k z) = 0 := by
  obtain ⟨h1, h2, h3, h4⟩ := check_parts hc
  have hp := config_parts h1
  have c1 := countO_set D.zones k y z hk
  have c2 := countA_set D.zones k y z hk
  refine check_of ?_ (right_set h2 k hz) ?_ ?_
  · rw [configB_eq] at h1 ⊢
    simp only [withZ, List.length_set]
    exact h1
  · show (countO (D.zones.set k z) : Int) ≤ D.maxOpen
    omega
  · show (countA (D.zones.set k z) : Int) ≤ D.maxActive
    omega
theorem right_empty {size : Int} (h : 0 ≤ size) : rightB empty size = true := by
  rw [right_iff]
  refine ⟨?_, rfl, rfl⟩
  simp [empty]
  exact h
theorem zone_of {D : Dev} {k : Nat} (hk : k < D.zones.length) : ∃ y, D.zones[k]? = some y := ⟨D.zones[k], List.getElem?_eq_getElem hk⟩
/-- what a command leaves: a valid device with as many zones of one size, and what could be read but for one zone -/
structure Kept (D X : Dev) (k : Nat) : Prop where
  valid : checkE X = 0
  size : X.size = D.size
  op : X.maxOpen = D.maxOpen
  act : X.maxActive = D.maxActive
  length : X.zones.length = D.zones.length
/-- nothing that could be read is lost -/
def Reads (D X : Dev) (j : Nat) : Prop := ∀ y, D.zones[j]? = some y → ∃ x T, X.zones[j]? = some x ∧ x.sectors = y.sectors ++ T ∧ (x.state = 5 → y.state = 5)
theorem reads_refl (D : Dev) (j : Nat) : Reads D D j := fun y hy => ⟨y, [], hy, by simp, id⟩
theorem reads_trans {D X Y : Dev} {j : Nat} (h : Reads D X j) (h2 : Reads X Y j) : Reads D Y j := fun y hy => by
  obtain ⟨x, T, h1, h3, h4⟩ := h y hy
  obtain ⟨z, U, h5, h6, h7⟩ := h2 x h1
  exact ⟨z, T ++ U, h5, by rw [h6, h3, List.append_assoc], fun h => h4 (h7 h)⟩
theorem kept_refl {D : Dev} (hc : checkE D = 0) (k : Nat) : Kept D D k := ⟨hc, rfl, rfl, rfl, rfl⟩
theorem kept_with {D : Dev} {k : Nat} {z : Zone} (h : checkE (withZ D k z) = 0) : Kept D (withZ D k z) k := ⟨h, rfl, rfl, rfl, by simp [withZ]⟩
theorem kept_trans {D X Y : Dev} {k : Nat} (h : Kept D X k) (h2 : Kept X Y k) : Kept D Y k := ⟨h2.valid, h2.size.trans h.size, h2.op.trans h.op, h2.act.trans h.act, h2.length.trans h.length⟩
theorem reads_with {D : Dev} {k j : Nat} {y z : Zone} (hk : D.zones[k]? = some y) (T : List ByteArray) (hs : z.sectors = y.sectors ++ T) (h5 : z.state = 5 → y.state = 5) : Reads D (withZ D k z) j := fun x hx => by
  by_cases hjk : k = j
  · subst hjk
    obtain rfl := Option.some.inj (hk.symm.trans hx)
    exact ⟨z, T, by simp only [withZ]; rw [List.getElem?_set_self (List.getElem?_eq_some_iff.1 hk).1], hs, h5⟩
  · exact ⟨x, [], by simp only [withZ]; rw [List.getElem?_set_ne hjk]; exact hx, by simp, id⟩
theorem reads_other {D : Dev} {k j : Nat} (z : Zone) (hjk : k ≠ j) : Reads D (withZ D k z) j := fun x hx => ⟨x, [], by simp only [withZ]; rw [List.getElem?_set_ne hjk]; exact hx, by simp, id⟩
/-- the states of a right zone -/
theorem open_state {s : Int} (h : openB s = true) : s = 1 ∨ s = 2 := by
  unfold openB at h
  simpa using h
theorem act_state {s : Int} (h : activeB s = true) : s = 1 ∨ s = 2 ∨ s = 3 := by
  unfold activeB openB at h
  simp at h
  omega
theorem reset_kept {D : Dev} {k : Nat} (hc : checkE D = 0) (hk : k < D.zones.length) : Kept D (resetR D (k : Int)) k ∧ ∀ j, j ≠ k → Reads D (resetR D (k : Int)) j := by
  obtain ⟨y, hy⟩ := zone_of hk
  by_cases hb : beginE D (k : Int) = 0
  · rw [resetR_yes hb]
    obtain ⟨h1, h2, h3, h4⟩ := check_parts hc
    have hp := config_parts h1
    refine ⟨kept_with (valid_with hc hy (right_empty (by omega)) ?_ ?_), fun j hj => reads_other _ (Ne.symm hj)⟩
    · rw [if_neg (by decide)]; omega
    · rw [if_neg (by decide)]; omega
  · rw [resetR_no hb]
    exact ⟨kept_refl hc k, fun j _ => reads_refl D j⟩
theorem finish_kept {D : Dev} {k : Nat} (hc : checkE D = 0) (hk : k < D.zones.length) : Kept D (finishR D (k : Int)) k ∧ ∀ j, Reads D (finishR D (k : Int)) j := by
  obtain ⟨y, hy⟩ := zone_of hk
  by_cases hb : beginE D (k : Int) = 0
  · rw [finishR_yes hb hy]
    obtain ⟨h1, h2, h3, h4⟩ := check_parts hc
    have hr := (right_iff _ _).1 (right_all h2 hy)
    refine ⟨kept_with (valid_with hc hy ?_ ?_ ?_), fun j => reads_with hy [] (by simp) (fun h => by cases h)⟩
    · rw [right_iff]
      refine ⟨?_, hr.2.1, ?_⟩
      · simp only
        omega
      · rw [if_neg (by simp), if_pos rfl]
    · rw [if_neg (by simp [openB])]; omega
    · rw [if_neg (by simp [activeB, openB])]; omega
  · rw [finishR_no hb]
    exact ⟨kept_refl hc k, fun j => reads_refl D j⟩
/-- closing an active zone -/
theorem shut_kept {D : Dev} {k : Nat} {y : Zone} (hc : checkE D = 0) (hy : D.zones[k]? = some y) (ha : activeB y.state = true) : Kept D (withZ D k (shut y)) k ∧ ∀ j, Reads D (withZ D k (shut y)) j := by
  obtain ⟨h1, h2, h3, h4⟩ := check_parts hc
  have hr := (right_iff _ _).1 (right_all h2 hy)
  have hst := act_state ha
  have hlen : (y.sectors.length : Int) < D.size := by
    have := hr.2.2
    rw [if_neg (by omega), if_neg (by omega)] at this
    exact this
  have hns : (shut y).state = 0 ∧ y.sectors.length = 0 ∨ (shut y).state = 3 ∧ y.sectors.length ≠ 0 := by
    unfold shut
    by_cases h : y.sectors.length = 0
    · exact .inl ⟨if_pos h, h⟩
    · exact .inr ⟨if_neg h, h⟩
  refine ⟨kept_with (valid_with hc hy ?_ ?_ ?_), fun j => reads_with hy [] (by simp [shut]) (fun h => by omega)⟩
  · rw [right_iff]
    have e1 : (shut y).durable = y.durable := rfl
    have e2 : (shut y).sectors = y.sectors := rfl
    rw [e1, e2]
    refine ⟨by omega, hr.2.1, ?_⟩
    rcases hns with ⟨h, h'⟩ | ⟨h, h'⟩
    · rw [if_pos (.inl h)]; exact h'
    · rw [if_neg (by omega), if_neg (by omega)]; exact hlen
  · have : openB (shut y).state = false := by rcases hns with ⟨h, _⟩ | ⟨h, _⟩ <;> rw [h] <;> rfl
    rw [this, if_neg (by decide)]; omega
  · rw [if_pos ha]
    split <;> omega
theorem close_kept {D : Dev} {k : Nat} (hc : checkE D = 0) (hk : k < D.zones.length) : Kept D (closeR D (k : Int)) k ∧ ∀ j, Reads D (closeR D (k : Int)) j := by
  obtain ⟨y, hy⟩ := zone_of hk
  unfold closeR
  split
  · rename_i he
    split
    · exact ⟨kept_refl hc k, fun j => reads_refl D j⟩
    · rw [Int.toNat_natCast, getD_of hy]
      refine shut_kept hc hy ?_
      unfold closeE at he
      split at he
      · rename_i hb; exact absurd he hb
      · split at he
        · rename_i h; rw [stateAt_of hy] at h; exact h
        · cases he
  · exact ⟨kept_refl hc k, fun j => reads_refl D j⟩
/-- making room -/
theorem cleared_kept {D : Dev} (hc : checkE D = 0) (h8 : ¬ (D.maxOpen ≤ countO D.zones ∧ firstOpen D.zones = D.zones.length)) (k : Nat) : Kept D (cleared D) k ∧ (∀ j, Reads D (cleared D) j) ∧ (countO (cleared D).zones : Int) < D.maxOpen ∧ countA (cleared D).zones ≤ countA D.zones := by
  obtain ⟨h1, h2, h3, h4⟩ := check_parts hc
  have hp := config_parts h1
  unfold cleared
  split
  · rename_i hO
    have hf : firstOpen D.zones < D.zones.length := by
      have := first_le D.zones
      rcases Nat.lt_or_ge (firstOpen D.zones) D.zones.length with h | h
      · exact h
      · exact absurd ⟨hO, by omega⟩ h8
    obtain ⟨y, hy⟩ := zone_of hf
    have hs := first_eq _ _ hy
    rw [getD_of hy]
    have ha : activeB y.state = true := by rw [hs]; rfl
    have hk := shut_kept hc hy ha
    have hcl := closing_counts hy hs
    refine ⟨⟨hk.1.valid, rfl, rfl, rfl, hk.1.length⟩, hk.2, ?_, hcl.2⟩
    show (countO (D.zones.set (firstOpen D.zones) (shut y)) : Int) < D.maxOpen
    omega
  · rename_i hO
    exact ⟨kept_refl hc k, fun j => reads_refl D j, by omega, Nat.le_refl _⟩
theorem room_no {D : Dev} {k : Nat} (h : roomE D k = 0) : ¬ (D.maxOpen ≤ countO D.zones ∧ firstOpen D.zones = D.zones.length) ∧ (activeB (D.zones.getD k empty).state = false → ¬ D.maxActive ≤ countA (cleared D).zones) := by
  unfold roomE at h
  split at h
  · cases h
  · rename_i h1
    split at h
    · cases h
    · rename_i h2
      exact ⟨h1, fun ha hm => h2 ⟨ha, hm⟩⟩
/-- a zone that is made open, or full, in a device that is ready for it -/
theorem ready_kept {D : Dev} {k : Nat} {y : Zone} (hc : checkE D = 0) (hy : D.zones[k]? = some y) (h : openB y.state = true ∨ roomE D k = 0) :
    Kept D (ready D (k : Int)) k ∧ (∀ j, Reads D (ready D (k : Int)) j) ∧ (ready D (k : Int)).zones[k]? = some y ∧
      countO (ready D (k : Int)).zones + 1 ≤ D.maxOpen.toNat + (if openB y.state = true then 1 else 0) ∧ countA (ready D (k : Int)).zones + 1 ≤ D.maxActive.toNat + (if activeB y.state = true then 1 else 0) := by
  obtain ⟨h1, h2, h3, h4⟩ := check_parts hc
  have hat := ready_at hy
  cases ho : openB y.state with
  | true =>
    have hrd : ready D (k : Int) = D := by unfold ready; rw [stateAt_of hy, if_pos ho]
    rw [hrd]
    have ha : activeB y.state = true := by simp [activeB, ho]
    rw [ha, if_pos rfl]
    exact ⟨kept_refl hc k, fun j => reads_refl D j, hy, by omega, by omega⟩
  | false =>
    have hE : roomE D k = 0 := by
      rcases h with h | h
      · rw [ho] at h; cases h
      · exact h
    have hrd : ready D (k : Int) = cleared D := by
      unfold ready
      rw [stateAt_of hy, ho, if_neg (by decide), Int.toNat_natCast]
      unfold roomR
      rw [if_pos hE]
    rw [hrd] at hat ⊢
    obtain ⟨r1, r2⟩ := room_no hE
    rw [getD_of hy] at r2
    obtain ⟨k1, k2, k3, k4⟩ := cleared_kept hc r1 k
    refine ⟨k1, k2, hat, by rw [if_neg (by decide)]; omega, ?_⟩
    cases ha : activeB y.state with
    | true => rw [if_pos rfl]; omega
    | false =>
      have := r2 ha
      rw [if_neg (by decide)]
      omega
theorem open_kept {D : Dev} {k : Nat} (hc : checkE D = 0) (hk : k < D.zones.length) : Kept D (openR D (k : Int)) k ∧ ∀ j, Reads D (openR D (k : Int)) j := by
  obtain ⟨y, hy⟩ := zone_of hk
  unfold openR
  split
  · rename_i he
    unfold openE at he
    split at he
    · rename_i hb; exact absurd he hb
    · rename_i hb
      have hb : beginE D (k : Int) = 0 := by omega
      obtain ⟨i, hi, -, -, h5⟩ := begin_range hb
      split at he
      · cases he
      · rename_i h4
        rw [stateAt_of hy] at h4 h5 he
        have hro : openB y.state = true ∨ roomE D k = 0 := by
          split at he
          · rename_i h; exact .inl h
          · exact .inr he
        obtain ⟨r1, r2, r3, r4, r5⟩ := ready_kept hc hy hro
        rw [Int.toNat_natCast, getD_of r3]
        have hr := (right_iff _ _).1 (right_all (check_parts hc).2.1 hy)
        have hlen : (y.sectors.length : Int) < D.size := by
          have := hr.2.2
          split at this
          · rename_i h0
            have := (config_parts (check_parts hc).1).2.2.1
            omega
          · first | exact this | (rw [if_neg h4] at this; exact this)
        have hv : checkE (withZ (ready D (k : Int)) k (held y)) = 0 := by
          refine valid_with r1.valid r3 ?_ ?_ ?_
          · rw [right_iff, r1.size]
            refine ⟨⟨by simp [held], by simp [held], hr.1.2.2.1, hr.1.2.2.2.1, hr.1.2.2.2.2⟩, hr.2.1, ?_⟩
            rw [if_neg (by simp [held]), if_neg (by simp [held])]
            exact hlen
          · rw [r1.op, show openB (held y).state = true from rfl, if_pos rfl]; exact r4
          · rw [r1.act, show activeB (held y).state = true from rfl, if_pos rfl]; exact r5
        exact ⟨kept_trans r1 (kept_with hv), fun j => reads_trans (r2 j) (reads_with r3 [] (by simp [held]) (fun h => by simp [held] at h))⟩
  · exact ⟨kept_refl hc k, fun j => reads_refl D j⟩
theorem sizes_app {L : List ByteArray} {s : ByteArray} (h : sizesB L = true) (hs : s.size = 40) : sizesB (L ++ [s]) = true := by
  rw [sizesB_snoc, h, hs]; rfl
theorem append_kept {D : Dev} {k : Nat} {s : ByteArray} (hc : checkE D = 0) (hk : k < D.zones.length) : Kept D (appendR D (k : Int) s) k ∧ ∀ j, Reads D (appendR D (k : Int) s) j := by
  obtain ⟨y, hy⟩ := zone_of hk
  unfold appendR
  split
  · rename_i he
    unfold appendE at he
    split at he
    · rename_i hb; exact absurd he hb
    · split at he
      · cases he
      · rename_i hs
        split at he
        · cases he
        · rename_i h5
          split at he
          · cases he
          · rename_i h4
            rw [stateAt_of hy] at h4 h5 he
            have hs : s.size = 40 := by omega
            have hro : openB y.state = true ∨ roomE D k = 0 := by
              split at he
              · rename_i h; exact .inl h
              · exact .inr he
            obtain ⟨r1, r2, r3, r4, r5⟩ := ready_kept hc hy hro
            rw [Int.toNat_natCast, getD_of r3]
            have hr := (right_iff _ _).1 (right_all (check_parts hc).2.1 hy)
            have hlen : (y.sectors.length : Int) < D.size := by
              have := hr.2.2
              split at this
              · rename_i h0
                have := (config_parts (check_parts hc).1).2.2.1
                omega
              · first | exact this | (rw [if_neg h4] at this; exact this)
            have hsz := sizes_app hr.2.1 hs
            have hv : checkE (withZ (ready D (k : Int)) k (appended y s D.size)) = 0 := by
              unfold appended
              split
              · rename_i hf
                refine valid_with r1.valid r3 ?_ ?_ ?_
                · rw [right_iff, r1.size]
                  refine ⟨?_, hsz, ?_⟩
                  · simp only [List.length_append, List.length_singleton]
                    omega
                  · rw [if_neg (by simp), if_pos rfl]
                    simp only [List.length_append, List.length_singleton]
                    omega
                · rw [r1.op, show openB (4 : Int) = false from rfl, if_neg (by decide)]; omega
                · rw [r1.act, show activeB (4 : Int) = false from rfl, if_neg (by decide)]; omega
              · rename_i hf
                have hst : (if openB y.state = true then y.state else 1) = 1 ∨ (if openB y.state = true then y.state else 1) = 2 := by
                  split
                  · rename_i h; exact open_state h
                  · exact .inl rfl
                generalize (if openB y.state = true then y.state else 1) = st at hst
                have o1 : openB st = true := by rcases hst with rfl | rfl <;> rfl
                have a1 : activeB st = true := by rcases hst with rfl | rfl <;> rfl
                refine valid_with r1.valid r3 ?_ ?_ ?_
                · rw [right_iff, r1.size]
                  refine ⟨?_, hsz, ?_⟩
                  · simp only [List.length_append, List.length_singleton]
                    omega
                  · simp only [List.length_append, List.length_singleton]
                    rw [if_neg (by omega), if_neg (by omega)]
                    omega
                · rw [r1.op, o1, if_pos rfl]; exact r4
                · rw [r1.act, a1, if_pos rfl]; exact r5
            refine ⟨kept_trans r1 (kept_with hv), fun j => reads_trans (r2 j) (reads_with r3 [s] (appended_sectors y s D.size) (fun h => ?_))⟩
            unfold appended at h
            split at h
            · cases h
            · simp only at h
              split at h
              · exact h
              · cases h
  · exact ⟨kept_refl hc k, fun j => reads_refl D j⟩
end Go.Proofs.Ytlmlmgegnnikeaa

/- The walks of the maker's Rest and Command but for two kinds of commands. -/
namespace Go.Proofs.Ytlmlmgegnnikeaa
open Go.RowKit Plan ZnsMath

theorem agree_grown {F : Nat → Prop} {w w' : World} {g : Nat} (h : w.grownBy w' (some g)) (hg : ¬ F g) : Agree F w w' :=
  ⟨h.size, fun b hb hlt => h.block b hlt (fun e => hg (by have e := Option.some.inj e; subst e; exact hb))⟩
set_option maxHeartbeats 2000000 in
set_option maxRecDepth 20000 in
theorem rest_any (w : World) (base g : Nat) (zs : List Int) (k : Nat) (hd : Dice w base g zs k) (hl : zs.length ≤ 100000) (hk : k ≤ zs.length) :
    Calls Try.prog 41 #[.pointer (some ⟨g, 0, none⟩)] w fun e w' => e = .returned (.int .i64 ((zs.length - k : Nat) : Int)) ∧ Dice w' base g zs k ∧ w.grownBy w' (some g) ∧ w'.heap.size = w.heap.size := by
  have hd2 := dice_drew hd
  obtain ⟨v, hg, hown, -, -⟩ := hd
  obtain ⟨a, cap, rfl⟩ : ∃ a cap, v = .slice a zs.length cap := by
    rcases hown.2 with ⟨rfl, h0⟩ | ⟨g', cap, cur, rfl, _⟩
    · exact ⟨none, 0, by rw [h0]⟩
    · exact ⟨_, _, rfl⟩
  have c0 := cell_of_row _ _ 0 _ _ _ hg
  have c1 := cell_of_row _ _ 1 _ _ _ hg
  have hsub : (zs.length : Int) - (k : Int) = ((zs.length - k : Nat) : Int) := by omega
  generalize hM : zs.length - k = M at *
  have hw : IntKind.i64.wrap (M : Int) = (M : Int) := by rw [IntKind.wrap_i64]; omega
  go_enter Try.func41, Try.ntmps41
  go_wp2_with fail
  refine Plan.start (fun W => W.cell? ⟨g, 0, none⟩ = some (.slice a zs.length cap) ∧ W.cell? ⟨g, 1, none⟩ = some (.int .i64 k)) [(0, true), (1, true), (2, true), (3, true), (4, true), (5, true), (6, true), (7, true), (8, true), (9, true), (10, true), (11, true)] (by kernel_rfl) (by kernel_rfl) (by kernel_rfl) (by kernel_rfl) ⟨c0, c1⟩ ?_
  simp only [List.map_cons, List.map_nil, List.getElem?_toArray, List.getElem?_cons_zero, List.getElem?_cons_succ]
  repeat (first | (refine Plan.take ?_ (by rfl) ?_ ?_; rotate_left; (· rintro w9 ⟨e0, e1⟩; go_simp; (try rw [if_neg (by omega)]); all_goals (with_reducible rfl)); simp only [Act.put, List.setIfInBounds_toArray, List.set_cons_zero, List.set_cons_succ]) | (refine Plan.pass (by rfl) ?_; simp only [Act.put, List.setIfInBounds_toArray, List.set_cons_zero, List.set_cons_succ]))
  refine Plan.ends ?_
  go_wp2_with fail
  all_goals
    go_ret
    refine ⟨?_, hd2, grownBy_drew w _, rfl⟩
  · rfl
  · obtain rfl : M = 0 := by omega
    rfl
/-- what a command of the maker leaves -/
def CmdPost (w : World) (F : Nat → Prop) (base g : Nat) (zs : List Int) (k n : Nat) (e : Ending) (w' : World) : Prop :=
  ∃ (D' : Dev) (a' : Option Addr) (cap' k' : Nat), e = .returned (devV D' a' n cap') ∧ ZonesIn w' (Plus F w.heap.size) a' n cap' D'.zones ∧ checkE D' = 0 ∧ k < k' ∧ k' ≤ zs.length ∧ Dice w' base g zs k' ∧ w.grownBy w' (some g)
theorem stp_step {zs : List Int} {k : Nat} (h : k < zs.length) : stp zs k = k + 1 := by unfold stp; rw [if_pos h]
theorem stp_ge (zs : List Int) (k : Nat) : k ≤ stp zs k := by unfold stp; split <;> omega
theorem stp_end {zs : List Int} {k : Nat} (h : k ≤ zs.length) : stp zs k ≤ zs.length := by unfold stp; split <;> omega
theorem below_grown {w w' : World} (h : Below w.heap.size w w') (g : Nat) : w.grownBy w' (some g) := ⟨h.os, h.tape, h.output, h.size, fun k hk _ => h.block k hk⟩
set_option maxHeartbeats 2000000 in
set_option maxRecDepth 20000 in
theorem cmd_reset (F : Nat → Prop) (D : Dev) (a : Option Addr) (n cap base g : Nat) (zs : List Int) (k : Nat) (w : World) (hF : ∀ b, F b → b < w.heap.size) (hFg : ¬ F g) (hz : ZonesIn w F a n cap D.zones) (hn1 : 1 ≤ n) (hn : n ≤ 1000) (hc : checkE D = 0) (hd : Dice w base g zs k) (hl : zs.length ≤ 100000) (hk : k < zs.length) (hcc : nxt zs (stp zs k) 9 = 0) (hEE : ∀ i : Nat, nxt zs k (n : Int) = (i : Int) → beginE D (i : Int) = 0) :
    Calls Try.prog 42 #[.pointer (some ⟨g, 0, none⟩), devV D a n cap, .int .i64 (n : Int)] w (CmdPost w F base g zs k n) := by
  have hgl := dice_lt hd
  have hlen := hz.is.length
  obtain ⟨i, hi, hin⟩ : ∃ i : Nat, nxt zs k (n : Int) = (i : Int) ∧ i < n := by
    have := nxt_range zs k (n : Int) (by omega)
    exact ⟨(nxt zs k (n : Int)).toNat, by omega, by omega⟩
  have hnx1 : ∀ W, Dice W base g zs k → Calls Try.prog 40 #[.pointer (some ⟨g, 0, none⟩), .int .i64 (n : Int)] W (NextPost W base g zs k (n : Int)) := fun W h => next_any W base g zs k n h hl (by omega) (by omega)
  have hnx2 : ∀ W, Dice W base g zs (stp zs k) → Calls Try.prog 40 #[.pointer (some ⟨g, 0, none⟩), .int .i64 9] W (NextPost W base g zs (stp zs k) 9) := fun W h => next_any W base g zs _ 9 h hl (by decide) (by decide)
  have hA : Below w.heap.size w ((w.alloc (devRow D.size D.maxOpen D.maxActive a n cap)).alloc (devRow 0 0 0 none 0 0)) := ((Below.refl _ _).alloc (Nat.le_refl _) _).alloc (by simp) _
  have ZI := Lib.hid hi
  have N1 := Lib.hid hnx1
  have N2 := Lib.hid hnx2
  have HA := Lib.hid hA
  have HZ := Lib.hid hz
  have D0 := Lib.hid (dice_alloc (dice_alloc hd (devRow D.size D.maxOpen D.maxActive a n cap)) (devRow 0 0 0 none 0 0))
  have hk' : k < stp zs (stp zs k) ∧ stp zs (stp zs k) ≤ zs.length := by
    rw [stp_step hk]
    have := stp_ge zs (k + 1)
    have := stp_end (zs := zs) (k := k + 1) (by omega)
    omega
  have HKK := Lib.hid hk'
  have hee := hEE i hi
  have hkp := (reset_kept hc (k := i) (by omega)).1.valid
  have hop : ∀ W, (∀ b, F b → b < W.heap.size) → ZonesIn W F a n cap D.zones → Calls Try.prog 28 #[devV D a n cap, .int .i64 (i : Int)] W fun e w' => ∃ a' cap', e = .returned (.tuple #[devV (resetR D (i : Int)) a' n cap', .int .i64 (beginE D (i : Int))]) ∧ ZonesIn w' (Plus F W.heap.size) a' n cap' (resetR D (i : Int)).zones ∧ Below W.heap.size W w' := fun W h1 h2 => refReset_any F D a n cap i W h1 h2 (by omega)
  rw [hee] at hop
  generalize resetR D (i : Int) = R at *
  have HO := Lib.hid hop
  have HC := Lib.hid hcc
  clear hop hnx1 hnx2 hA hd hi hcc hEE hee hk'
  unfold CmdPost
  obtain ⟨size, op, act, Z⟩ := D
  obtain ⟨rs, ro, ra, RZ⟩ := R
  go_enter Try.func42, Try.ntmps42
  go_wp2_with (first
    | (go_at_call 40; ((with_reducible refine (N1.out _ D0.out).mono ?_); rintro e w1 ⟨rfl, hd1, hg1, hs1⟩; rw [ZI.out]; have hx1 := row_grown hg1 (heap_first2 w _ _) (by omega); have hr1 := row_grown hg1 (heap_second w _ _) (by omega); have t1 : w1.heap.size = w.heap.size + 1 + 1 := hs1.trans (by simp only [World.size_alloc]); have hv1 : (w1.alloc (devRow size op act a n cap)).heap[w.heap.size + 1 + 1]? = some (devRow size op act a n cap) := (by rw [← t1]; exact heap_alloc_new w1 (devRow size op act a n cap)); have hx1' := row_al hx1 (devRow size op act a n cap); have hr1' := row_al hr1 (devRow size op act a n cap); obtain ⟨y1, d0, d1, d2, d3⟩ := row4 hx1; have hz1 := ((HZ.out.on (Agree.below HA.out)).on (agree_grown hg1 hFg)).on (Agree.below ((Below.refl _ _).alloc (Nat.le_refl _) (devRow size op act a n cap))); have G1 := grownBy_trans (grownBy_trans (below_grown HA.out g) hg1) (World.grownBy_alloc w1 (devRow size op act a n cap) (some g))))
    | (go_at_call 40; ((with_reducible refine (N2.out _ (dice_alloc hd1 _)).mono ?_); rintro e w2 ⟨rfl, hd2, hg2, hs2⟩; rw [HC.out]; have hx2 := row_grown hg2 hx1' (by omega); have hr2 := row_grown hg2 hr1' (by omega); have hv2 := row_grown hg2 hv1 (by omega); obtain ⟨y2, d0, d1, d2, d3⟩ := row4 hx2; have hz2 := hz1.on (agree_grown hg2 hFg); have t2 : w2.heap.size = w1.heap.size + 1 := hs2.trans (World.size_alloc _ _); have G2 := grownBy_trans G1 hg2; have l0 := (row4 hv2).2.1; have l1 := (row4 hv2).2.2.1; have l2 := (row4 hv2).2.2.2.1; have l3 := (row4 hv2).2.2.2.2))
    | (go_at_call 28; ((with_reducible refine (HO.out w2 (fun b hb => by have := hF b hb; omega) hz2).mono ?_); rintro e w3 ⟨a3, c3, rfl, hz3, hb3⟩; have hx3 := row_on hb3 hx2 (lt_of_block hx2); have hr3 := row_on hb3 hr2 (lt_of_block hr2); have hv3 := row_on hb3 hv2 (lt_of_block hv2); have hd3 := dice_on hd2 hb3 (Nat.le_refl _); have G3 := grownBy_trans G2 (below_grown hb3 g)))
    | ((with_reducible refine Plan.store_lit 24 (.tmp 8) _ (w.heap.size + 1 + 1) ?_ hv3 ?_ ?_ ?_ ?_ ?_ ?_); rotate_left; (· rfl); (· rfl); (· exact dev_info); (· rfl); (· simp [Value.oneCell']); simp only [Act.put]; have hv4 := setRow_heap _ _ _ #[.int .i64 rs, .int .i64 ro, .int .i64 ra, .slice a3 n c3] _ _ hv3; have hx4 := (setRow_other _ (w.heap.size + 1 + 1) w.heap.size #[.int .i64 rs, .int .i64 ro, .int .i64 ra, .slice a3 n c3] (by omega)).trans hx3; have hr4 := (setRow_other _ (w.heap.size + 1 + 1) (w.heap.size + 1) #[.int .i64 rs, .int .i64 ro, .int .i64 ra, .slice a3 n c3] (by omega)).trans hr3; have hz4 := hz3.on (Agree.row (r := (w.heap.size + 1 + 1)) (by rintro (h | h); (· have := hF _ h; omega); (· omega)) #[.int .i64 rs, .int .i64 ro, .int .i64 ra, .slice a3 n c3]); have hd4 := dice_far hd3 (grownBy_setRow w3 (w.heap.size + 1 + 1) #[.int .i64 rs, .int .i64 ro, .int .i64 ra, .slice a3 n c3]) (by omega); have G4 := grownBy_row G3 (x := (w.heap.size + 1 + 1)) (by omega) #[.int .i64 rs, .int .i64 ro, .int .i64 ra, .slice a3 n c3]; generalize w3.setRow (w.heap.size + 1 + 1) #[.int .i64 rs, .int .i64 ro, .int .i64 ra, .slice a3 n c3] = w4 at hv4 hx4 hr4 hz4 hd4 G4 ⊢; clear d0 d1 d2 d3 l0 l1 l2 l3; obtain ⟨y4, d0, d1, d2, d3⟩ := row4 hx4; obtain ⟨v4, l0, l1, l2, l3⟩ := row4 hv4)
    | ((with_reducible refine Plan.store_lit 24 (.tmp 6) _ (w.heap.size + 1) ?_ hr4 ?_ ?_ ?_ ?_ ?_ ?_); rotate_left; (· rfl); (· rfl); (· exact dev_info); (· rfl); (· simp [Value.oneCell']); simp only [Act.put]))
  have hz5 := hz4.on (Agree.row (r := w.heap.size + 1) (by rintro (h | h); (· have := hF _ h; omega); (· omega)) #[.int .i64 rs, .int .i64 ro, .int .i64 ra, .slice a3 n c3])
  exact bodyPost_ret (results_cell_row rfl _ _ _ _ _ _ _ rfl (setRow_heap _ _ _ _ _ _ hr4) Try.underlying24 rfl dev_info) rfl ⟨⟨rs, ro, ra, RZ⟩, a3, c3, _, rfl, hz5.mono (fun _ _ h => h.imp id (fun h => by omega)), hkp, HKK.out.1, HKK.out.2, dice_far hd4 (grownBy_setRow w4 _ _) (by omega), grownBy_row G4 (by omega) _⟩
set_option maxHeartbeats 2000000 in
set_option maxRecDepth 20000 in
theorem cmd_reset_err (F : Nat → Prop) (D : Dev) (a : Option Addr) (n cap base g : Nat) (zs : List Int) (k : Nat) (w : World) (hF : ∀ b, F b → b < w.heap.size) (hFg : ¬ F g) (hz : ZonesIn w F a n cap D.zones) (hn1 : 1 ≤ n) (hn : n ≤ 1000) (hc : checkE D = 0) (hd : Dice w base g zs k) (hl : zs.length ≤ 100000) (hk : k < zs.length) (hcc : nxt zs (stp zs k) 9 = 0) (hEE : ∀ i : Nat, nxt zs k (n : Int) = (i : Int) → beginE D (i : Int) ≠ 0) :
    Calls Try.prog 42 #[.pointer (some ⟨g, 0, none⟩), devV D a n cap, .int .i64 (n : Int)] w (CmdPost w F base g zs k n) := by
  have hgl := dice_lt hd
  have hlen := hz.is.length
  obtain ⟨i, hi, hin⟩ : ∃ i : Nat, nxt zs k (n : Int) = (i : Int) ∧ i < n := by
    have := nxt_range zs k (n : Int) (by omega)
    exact ⟨(nxt zs k (n : Int)).toNat, by omega, by omega⟩
  have hnx1 : ∀ W, Dice W base g zs k → Calls Try.prog 40 #[.pointer (some ⟨g, 0, none⟩), .int .i64 (n : Int)] W (NextPost W base g zs k (n : Int)) := fun W h => next_any W base g zs k n h hl (by omega) (by omega)
  have hnx2 : ∀ W, Dice W base g zs (stp zs k) → Calls Try.prog 40 #[.pointer (some ⟨g, 0, none⟩), .int .i64 9] W (NextPost W base g zs (stp zs k) 9) := fun W h => next_any W base g zs _ 9 h hl (by decide) (by decide)
  have hA : Below w.heap.size w ((w.alloc (devRow D.size D.maxOpen D.maxActive a n cap)).alloc (devRow 0 0 0 none 0 0)) := ((Below.refl _ _).alloc (Nat.le_refl _) _).alloc (by simp) _
  have ZI := Lib.hid hi
  have N1 := Lib.hid hnx1
  have N2 := Lib.hid hnx2
  have HA := Lib.hid hA
  have HZ := Lib.hid hz
  have D0 := Lib.hid (dice_alloc (dice_alloc hd (devRow D.size D.maxOpen D.maxActive a n cap)) (devRow 0 0 0 none 0 0))
  have hk' : k < stp zs (stp zs k) ∧ stp zs (stp zs k) ≤ zs.length := by
    rw [stp_step hk]
    have := stp_ge zs (k + 1)
    have := stp_end (zs := zs) (k := k + 1) (by omega)
    omega
  have HKK := Lib.hid hk'
  have hee := hEE i hi
  have hkp := (reset_kept hc (k := i) (by omega)).1.valid
  have hop : ∀ W, (∀ b, F b → b < W.heap.size) → ZonesIn W F a n cap D.zones → Calls Try.prog 28 #[devV D a n cap, .int .i64 (i : Int)] W fun e w' => ∃ a' cap', e = .returned (.tuple #[devV (resetR D (i : Int)) a' n cap', .int .i64 (beginE D (i : Int))]) ∧ ZonesIn w' (Plus F W.heap.size) a' n cap' (resetR D (i : Int)).zones ∧ Below W.heap.size W w' := fun W h1 h2 => refReset_any F D a n cap i W h1 h2 (by omega)
  generalize beginE D (i : Int) = E at *
  have he0 : (E != 0) = true := by simp [hee]
  generalize resetR D (i : Int) = R at *
  have HO := Lib.hid hop
  have HC := Lib.hid hcc
  clear hop hnx1 hnx2 hA hd hi hcc hEE hee hk'
  unfold CmdPost
  obtain ⟨size, op, act, Z⟩ := D
  obtain ⟨rs, ro, ra, RZ⟩ := R
  go_enter Try.func42, Try.ntmps42
  go_wp2_with (first
    | (go_at_call 40; ((with_reducible refine (N1.out _ D0.out).mono ?_); rintro e w1 ⟨rfl, hd1, hg1, hs1⟩; rw [ZI.out]; have hx1 := row_grown hg1 (heap_first2 w _ _) (by omega); have hr1 := row_grown hg1 (heap_second w _ _) (by omega); have t1 : w1.heap.size = w.heap.size + 1 + 1 := hs1.trans (by simp only [World.size_alloc]); have hv1 : (w1.alloc (devRow size op act a n cap)).heap[w.heap.size + 1 + 1]? = some (devRow size op act a n cap) := (by rw [← t1]; exact heap_alloc_new w1 (devRow size op act a n cap)); have hx1' := row_al hx1 (devRow size op act a n cap); have hr1' := row_al hr1 (devRow size op act a n cap); obtain ⟨y1, d0, d1, d2, d3⟩ := row4 hx1; have hz1 := ((HZ.out.on (Agree.below HA.out)).on (agree_grown hg1 hFg)).on (Agree.below ((Below.refl _ _).alloc (Nat.le_refl _) (devRow size op act a n cap))); have G1 := grownBy_trans (grownBy_trans (below_grown HA.out g) hg1) (World.grownBy_alloc w1 (devRow size op act a n cap) (some g))))
    | (go_at_call 40; ((with_reducible refine (N2.out _ (dice_alloc hd1 _)).mono ?_); rintro e w2 ⟨rfl, hd2, hg2, hs2⟩; rw [HC.out]; have hx2 := row_grown hg2 hx1' (by omega); have hr2 := row_grown hg2 hr1' (by omega); have hv2 := row_grown hg2 hv1 (by omega); obtain ⟨y2, d0, d1, d2, d3⟩ := row4 hx2; have hz2 := hz1.on (agree_grown hg2 hFg); have t2 : w2.heap.size = w1.heap.size + 1 := hs2.trans (World.size_alloc _ _); have G2 := grownBy_trans G1 hg2; have l0 := (row4 hv2).2.1; have l1 := (row4 hv2).2.2.1; have l2 := (row4 hv2).2.2.2.1; have l3 := (row4 hv2).2.2.2.2))
    | (go_at_call 28; ((with_reducible refine (HO.out w2 (fun b hb => by have := hF b hb; omega) hz2).mono ?_); rintro e w3 ⟨a3, c3, rfl, hz3, hb3⟩; have hx3 := row_on hb3 hx2 (lt_of_block hx2); have hr3 := row_on hb3 hr2 (lt_of_block hr2); have hv3 := row_on hb3 hv2 (lt_of_block hv2); have hd3 := dice_on hd2 hb3 (Nat.le_refl _); have G3 := grownBy_trans G2 (below_grown hb3 g)))
    | ((with_reducible refine Plan.store_lit 24 (.tmp 8) _ (w.heap.size + 1 + 1) ?_ hv3 ?_ ?_ ?_ ?_ ?_ ?_); rotate_left; (· rfl); (· rfl); (· exact dev_info); (· rfl); (· simp [Value.oneCell']); simp only [Act.put]; have hv4 := setRow_heap _ _ _ #[.int .i64 rs, .int .i64 ro, .int .i64 ra, .slice a3 n c3] _ _ hv3; have hx4 := (setRow_other _ (w.heap.size + 1 + 1) w.heap.size #[.int .i64 rs, .int .i64 ro, .int .i64 ra, .slice a3 n c3] (by omega)).trans hx3; have hr4 := (setRow_other _ (w.heap.size + 1 + 1) (w.heap.size + 1) #[.int .i64 rs, .int .i64 ro, .int .i64 ra, .slice a3 n c3] (by omega)).trans hr3; have hz4 := hz3.on (Agree.row (r := (w.heap.size + 1 + 1)) (by rintro (h | h); (· have := hF _ h; omega); (· omega)) #[.int .i64 rs, .int .i64 ro, .int .i64 ra, .slice a3 n c3]); have hd4 := dice_far hd3 (grownBy_setRow w3 (w.heap.size + 1 + 1) #[.int .i64 rs, .int .i64 ro, .int .i64 ra, .slice a3 n c3]) (by omega); have G4 := grownBy_row G3 (x := (w.heap.size + 1 + 1)) (by omega) #[.int .i64 rs, .int .i64 ro, .int .i64 ra, .slice a3 n c3]; generalize w3.setRow (w.heap.size + 1 + 1) #[.int .i64 rs, .int .i64 ro, .int .i64 ra, .slice a3 n c3] = w4 at hv4 hx4 hr4 hz4 hd4 G4 ⊢; clear d0 d1 d2 d3 l0 l1 l2 l3; obtain ⟨y4, d0, d1, d2, d3⟩ := row4 hx4; obtain ⟨v4, l0, l1, l2, l3⟩ := row4 hv4)
    | ((with_reducible refine Plan.store_lit 24 (.tmp 6) _ (w.heap.size + 1) ?_ hr4 ?_ ?_ ?_ ?_ ?_ ?_); rotate_left; (· rfl); (· rfl); (· exact dev_info); (· rfl); (· simp [Value.oneCell']); simp only [Act.put]))
  have hzf := (((HZ.out.on (Agree.below HA.out)).mono (G := fun b => F b) (fun _ _ h => h)))
  have hzw : ZonesIn w4 F a n cap Z := HZ.out.on (agree_grown G4 hFg)
  have hz5 := hzw.on (Agree.row (r := w.heap.size + 1) (fun h => by have := hF _ h; omega) #[.int .i64 size, .int .i64 op, .int .i64 act, .slice a n cap])
  exact bodyPost_ret (results_cell_row rfl _ _ _ _ _ _ _ rfl (setRow_heap _ _ _ _ _ _ hr4) Try.underlying24 rfl dev_info) rfl ⟨⟨size, op, act, Z⟩, a, cap, _, rfl, hz5.mono (fun _ _ h => .inl h), hc, HKK.out.1, HKK.out.2, dice_far hd4 (grownBy_setRow w4 _ _) (by omega), grownBy_row G4 (by omega) _⟩
set_option maxHeartbeats 2000000 in
set_option maxRecDepth 20000 in
theorem cmd_finish (F : Nat → Prop) (D : Dev) (a : Option Addr) (n cap base g : Nat) (zs : List Int) (k : Nat) (w : World) (hF : ∀ b, F b → b < w.heap.size) (hFg : ¬ F g) (hz : ZonesIn w F a n cap D.zones) (hn1 : 1 ≤ n) (hn : n ≤ 1000) (hc : checkE D = 0) (hd : Dice w base g zs k) (hl : zs.length ≤ 100000) (hk : k < zs.length) (hcc : nxt zs (stp zs k) 9 = 1) (hEE : ∀ i : Nat, nxt zs k (n : Int) = (i : Int) → beginE D (i : Int) = 0) :
    Calls Try.prog 42 #[.pointer (some ⟨g, 0, none⟩), devV D a n cap, .int .i64 (n : Int)] w (CmdPost w F base g zs k n) := by
  have hgl := dice_lt hd
  have hlen := hz.is.length
  obtain ⟨i, hi, hin⟩ : ∃ i : Nat, nxt zs k (n : Int) = (i : Int) ∧ i < n := by
    have := nxt_range zs k (n : Int) (by omega)
    exact ⟨(nxt zs k (n : Int)).toNat, by omega, by omega⟩
  have hnx1 : ∀ W, Dice W base g zs k → Calls Try.prog 40 #[.pointer (some ⟨g, 0, none⟩), .int .i64 (n : Int)] W (NextPost W base g zs k (n : Int)) := fun W h => next_any W base g zs k n h hl (by omega) (by omega)
  have hnx2 : ∀ W, Dice W base g zs (stp zs k) → Calls Try.prog 40 #[.pointer (some ⟨g, 0, none⟩), .int .i64 9] W (NextPost W base g zs (stp zs k) 9) := fun W h => next_any W base g zs _ 9 h hl (by decide) (by decide)
  have hA : Below w.heap.size w ((w.alloc (devRow D.size D.maxOpen D.maxActive a n cap)).alloc (devRow 0 0 0 none 0 0)) := ((Below.refl _ _).alloc (Nat.le_refl _) _).alloc (by simp) _
  have ZI := Lib.hid hi
  have N1 := Lib.hid hnx1
  have N2 := Lib.hid hnx2
  have HA := Lib.hid hA
  have HZ := Lib.hid hz
  have D0 := Lib.hid (dice_alloc (dice_alloc hd (devRow D.size D.maxOpen D.maxActive a n cap)) (devRow 0 0 0 none 0 0))
  have hk' : k < stp zs (stp zs k) ∧ stp zs (stp zs k) ≤ zs.length := by
    rw [stp_step hk]
    have := stp_ge zs (k + 1)
    have := stp_end (zs := zs) (k := k + 1) (by omega)
    omega
  have HKK := Lib.hid hk'
  have hee := hEE i hi
  have hkp := (finish_kept hc (k := i) (by omega)).1.valid
  have hop : ∀ W, (∀ b, F b → b < W.heap.size) → ZonesIn W F a n cap D.zones → Calls Try.prog 30 #[devV D a n cap, .int .i64 (i : Int)] W fun e w' => ∃ a' cap', e = .returned (.tuple #[devV (finishR D (i : Int)) a' n cap', .int .i64 (beginE D (i : Int))]) ∧ ZonesIn w' (Plus F W.heap.size) a' n cap' (finishR D (i : Int)).zones ∧ Below W.heap.size W w' := fun W h1 h2 => refFinish_any F D a n cap i W h1 h2 (by omega)
  rw [hee] at hop
  generalize finishR D (i : Int) = R at *
  have HO := Lib.hid hop
  have HC := Lib.hid hcc
  clear hop hnx1 hnx2 hA hd hi hcc hEE hee hk'
  unfold CmdPost
  obtain ⟨size, op, act, Z⟩ := D
  obtain ⟨rs, ro, ra, RZ⟩ := R
  go_enter Try.func42, Try.ntmps42
  go_wp2_with (first
    | (go_at_call 40; ((with_reducible refine (N1.out _ D0.out).mono ?_); rintro e w1 ⟨rfl, hd1, hg1, hs1⟩; rw [ZI.out]; have hx1 := row_grown hg1 (heap_first2 w _ _) (by omega); have hr1 := row_grown hg1 (heap_second w _ _) (by omega); have t1 : w1.heap.size = w.heap.size + 1 + 1 := hs1.trans (by simp only [World.size_alloc]); have hv1 : (w1.alloc (devRow size op act a n cap)).heap[w.heap.size + 1 + 1]? = some (devRow size op act a n cap) := (by rw [← t1]; exact heap_alloc_new w1 (devRow size op act a n cap)); have hx1' := row_al hx1 (devRow size op act a n cap); have hr1' := row_al hr1 (devRow size op act a n cap); obtain ⟨y1, d0, d1, d2, d3⟩ := row4 hx1; have hz1 := ((HZ.out.on (Agree.below HA.out)).on (agree_grown hg1 hFg)).on (Agree.below ((Below.refl _ _).alloc (Nat.le_refl _) (devRow size op act a n cap))); have G1 := grownBy_trans (grownBy_trans (below_grown HA.out g) hg1) (World.grownBy_alloc w1 (devRow size op act a n cap) (some g))))
    | (go_at_call 40; ((with_reducible refine (N2.out _ (dice_alloc hd1 _)).mono ?_); rintro e w2 ⟨rfl, hd2, hg2, hs2⟩; rw [HC.out]; have hx2 := row_grown hg2 hx1' (by omega); have hr2 := row_grown hg2 hr1' (by omega); have hv2 := row_grown hg2 hv1 (by omega); obtain ⟨y2, d0, d1, d2, d3⟩ := row4 hx2; have hz2 := hz1.on (agree_grown hg2 hFg); have t2 : w2.heap.size = w1.heap.size + 1 := hs2.trans (World.size_alloc _ _); have G2 := grownBy_trans G1 hg2; have l0 := (row4 hv2).2.1; have l1 := (row4 hv2).2.2.1; have l2 := (row4 hv2).2.2.2.1; have l3 := (row4 hv2).2.2.2.2))
    | (go_at_call 30; ((with_reducible refine (HO.out w2 (fun b hb => by have := hF b hb; omega) hz2).mono ?_); rintro e w3 ⟨a3, c3, rfl, hz3, hb3⟩; have hx3 := row_on hb3 hx2 (lt_of_block hx2); have hr3 := row_on hb3 hr2 (lt_of_block hr2); have hv3 := row_on hb3 hv2 (lt_of_block hv2); have hd3 := dice_on hd2 hb3 (Nat.le_refl _); have G3 := grownBy_trans G2 (below_grown hb3 g)))
    | ((with_reducible refine Plan.store_lit 24 (.tmp 8) _ (w.heap.size + 1 + 1) ?_ hv3 ?_ ?_ ?_ ?_ ?_ ?_); rotate_left; (· rfl); (· rfl); (· exact dev_info); (· rfl); (· simp [Value.oneCell']); simp only [Act.put]; have hv4 := setRow_heap _ _ _ #[.int .i64 rs, .int .i64 ro, .int .i64 ra, .slice a3 n c3] _ _ hv3; have hx4 := (setRow_other _ (w.heap.size + 1 + 1) w.heap.size #[.int .i64 rs, .int .i64 ro, .int .i64 ra, .slice a3 n c3] (by omega)).trans hx3; have hr4 := (setRow_other _ (w.heap.size + 1 + 1) (w.heap.size + 1) #[.int .i64 rs, .int .i64 ro, .int .i64 ra, .slice a3 n c3] (by omega)).trans hr3; have hz4 := hz3.on (Agree.row (r := (w.heap.size + 1 + 1)) (by rintro (h | h); (· have := hF _ h; omega); (· omega)) #[.int .i64 rs, .int .i64 ro, .int .i64 ra, .slice a3 n c3]); have hd4 := dice_far hd3 (grownBy_setRow w3 (w.heap.size + 1 + 1) #[.int .i64 rs, .int .i64 ro, .int .i64 ra, .slice a3 n c3]) (by omega); have G4 := grownBy_row G3 (x := (w.heap.size + 1 + 1)) (by omega) #[.int .i64 rs, .int .i64 ro, .int .i64 ra, .slice a3 n c3]; generalize w3.setRow (w.heap.size + 1 + 1) #[.int .i64 rs, .int .i64 ro, .int .i64 ra, .slice a3 n c3] = w4 at hv4 hx4 hr4 hz4 hd4 G4 ⊢; clear d0 d1 d2 d3 l0 l1 l2 l3; obtain ⟨y4, d0, d1, d2, d3⟩ := row4 hx4; obtain ⟨v4, l0, l1, l2, l3⟩ := row4 hv4)
    | ((with_reducible refine Plan.store_lit 24 (.tmp 6) _ (w.heap.size + 1) ?_ hr4 ?_ ?_ ?_ ?_ ?_ ?_); rotate_left; (· rfl); (· rfl); (· exact dev_info); (· rfl); (· simp [Value.oneCell']); simp only [Act.put]))
  have hz5 := hz4.on (Agree.row (r := w.heap.size + 1) (by rintro (h | h); (· have := hF _ h; omega); (· omega)) #[.int .i64 rs, .int .i64 ro, .int .i64 ra, .slice a3 n c3])
  exact bodyPost_ret (results_cell_row rfl _ _ _ _ _ _ _ rfl (setRow_heap _ _ _ _ _ _ hr4) Try.underlying24 rfl dev_info) rfl ⟨⟨rs, ro, ra, RZ⟩, a3, c3, _, rfl, hz5.mono (fun _ _ h => h.imp id (fun h => by omega)), hkp, HKK.out.1, HKK.out.2, dice_far hd4 (grownBy_setRow w4 _ _) (by omega), grownBy_row G4 (by omega) _⟩
set_option maxHeartbeats 2000000 in
set_option maxRecDepth 20000 in
theorem cmd_finish_err (F : Nat → Prop) (D : Dev) (a : Option Addr) (n cap base g : Nat) (zs : List Int) (k : Nat) (w : World) (hF : ∀ b, F b → b < w.heap.size) (hFg : ¬ F g) (hz : ZonesIn w F a n cap D.zones) (hn1 : 1 ≤ n) (hn : n ≤ 1000) (hc : checkE D = 0) (hd : Dice w base g zs k) (hl : zs.length ≤ 100000) (hk : k < zs.length) (hcc : nxt zs (stp zs k) 9 = 1) (hEE : ∀ i : Nat, nxt zs k (n : Int) = (i : Int) → beginE D (i : Int) ≠ 0) :
    Calls Try.prog 42 #[.pointer (some ⟨g, 0, none⟩), devV D a n cap, .int .i64 (n : Int)] w (CmdPost w F base g zs k n) := by
  have hgl := dice_lt hd
  have hlen := hz.is.length
  obtain ⟨i, hi, hin⟩ : ∃ i : Nat, nxt zs k (n : Int) = (i : Int) ∧ i < n := by
    have := nxt_range zs k (n : Int) (by omega)
    exact ⟨(nxt zs k (n : Int)).toNat, by omega, by omega⟩
  have hnx1 : ∀ W, Dice W base g zs k → Calls Try.prog 40 #[.pointer (some ⟨g, 0, none⟩), .int .i64 (n : Int)] W (NextPost W base g zs k (n : Int)) := fun W h => next_any W base g zs k n h hl (by omega) (by omega)
  have hnx2 : ∀ W, Dice W base g zs (stp zs k) → Calls Try.prog 40 #[.pointer (some ⟨g, 0, none⟩), .int .i64 9] W (NextPost W base g zs (stp zs k) 9) := fun W h => next_any W base g zs _ 9 h hl (by decide) (by decide)
  have hA : Below w.heap.size w ((w.alloc (devRow D.size D.maxOpen D.maxActive a n cap)).alloc (devRow 0 0 0 none 0 0)) := ((Below.refl _ _).alloc (Nat.le_refl _) _).alloc (by simp) _
  have ZI := Lib.hid hi
  have N1 := Lib.hid hnx1
  have N2 := Lib.hid hnx2
  have HA := Lib.hid hA
  have HZ := Lib.hid hz
  have D0 := Lib.hid (dice_alloc (dice_alloc hd (devRow D.size D.maxOpen D.maxActive a n cap)) (devRow 0 0 0 none 0 0))
  have hk' : k < stp zs (stp zs k) ∧ stp zs (stp zs k) ≤ zs.length := by
    rw [stp_step hk]
    have := stp_ge zs (k + 1)
    have := stp_end (zs := zs) (k := k + 1) (by omega)
    omega
  have HKK := Lib.hid hk'
  have hee := hEE i hi
  have hkp := (finish_kept hc (k := i) (by omega)).1.valid
  have hop : ∀ W, (∀ b, F b → b < W.heap.size) → ZonesIn W F a n cap D.zones → Calls Try.prog 30 #[devV D a n cap, .int .i64 (i : Int)] W fun e w' => ∃ a' cap', e = .returned (.tuple #[devV (finishR D (i : Int)) a' n cap', .int .i64 (beginE D (i : Int))]) ∧ ZonesIn w' (Plus F W.heap.size) a' n cap' (finishR D (i : Int)).zones ∧ Below W.heap.size W w' := fun W h1 h2 => refFinish_any F D a n cap i W h1 h2 (by omega)
  generalize beginE D (i : Int) = E at *
  have he0 : (E != 0) = true := by simp [hee]
  generalize finishR D (i : Int) = R at *
  have HO := Lib.hid hop
  have HC := Lib.hid hcc
  clear hop hnx1 hnx2 hA hd hi hcc hEE hee hk'
  unfold CmdPost
  obtain ⟨size, op, act, Z⟩ := D
  obtain ⟨rs, ro, ra, RZ⟩ := R
  go_enter Try.func42, Try.ntmps42
  go_wp2_with (first
    | (go_at_call 40; ((with_reducible refine (N1.out _ D0.out).mono ?_); rintro e w1 ⟨rfl, hd1, hg1, hs1⟩; rw [ZI.out]; have hx1 := row_grown hg1 (heap_first2 w _ _) (by omega); have hr1 := row_grown hg1 (heap_second w _ _) (by omega); have t1 : w1.heap.size = w.heap.size + 1 + 1 := hs1.trans (by simp only [World.size_alloc]); have hv1 : (w1.alloc (devRow size op act a n cap)).heap[w.heap.size + 1 + 1]? = some (devRow size op act a n cap) := (by rw [← t1]; exact heap_alloc_new w1 (devRow size op act a n cap)); have hx1' := row_al hx1 (devRow size op act a n cap); have hr1' := row_al hr1 (devRow size op act a n cap); obtain ⟨y1, d0, d1, d2, d3⟩ := row4 hx1; have hz1 := ((HZ.out.on (Agree.below HA.out)).on (agree_grown hg1 hFg)).on (Agree.below ((Below.refl _ _).alloc (Nat.le_refl _) (devRow size op act a n cap))); have G1 := grownBy_trans (grownBy_trans (below_grown HA.out g) hg1) (World.grownBy_alloc w1 (devRow size op act a n cap) (some g))))
    | (go_at_call 40; ((with_reducible refine (N2.out _ (dice_alloc hd1 _)).mono ?_); rintro e w2 ⟨rfl, hd2, hg2, hs2⟩; rw [HC.out]; have hx2 := row_grown hg2 hx1' (by omega); have hr2 := row_grown hg2 hr1' (by omega); have hv2 := row_grown hg2 hv1 (by omega); obtain ⟨y2, d0, d1, d2, d3⟩ := row4 hx2; have hz2 := hz1.on (agree_grown hg2 hFg); have t2 : w2.heap.size = w1.heap.size + 1 := hs2.trans (World.size_alloc _ _); have G2 := grownBy_trans G1 hg2; have l0 := (row4 hv2).2.1; have l1 := (row4 hv2).2.2.1; have l2 := (row4 hv2).2.2.2.1; have l3 := (row4 hv2).2.2.2.2))
    | (go_at_call 30; ((with_reducible refine (HO.out w2 (fun b hb => by have := hF b hb; omega) hz2).mono ?_); rintro e w3 ⟨a3, c3, rfl, hz3, hb3⟩; have hx3 := row_on hb3 hx2 (lt_of_block hx2); have hr3 := row_on hb3 hr2 (lt_of_block hr2); have hv3 := row_on hb3 hv2 (lt_of_block hv2); have hd3 := dice_on hd2 hb3 (Nat.le_refl _); have G3 := grownBy_trans G2 (below_grown hb3 g)))
    | ((with_reducible refine Plan.store_lit 24 (.tmp 8) _ (w.heap.size + 1 + 1) ?_ hv3 ?_ ?_ ?_ ?_ ?_ ?_); rotate_left; (· rfl); (· rfl); (· exact dev_info); (· rfl); (· simp [Value.oneCell']); simp only [Act.put]; have hv4 := setRow_heap _ _ _ #[.int .i64 rs, .int .i64 ro, .int .i64 ra, .slice a3 n c3] _ _ hv3; have hx4 := (setRow_other _ (w.heap.size + 1 + 1) w.heap.size #[.int .i64 rs, .int .i64 ro, .int .i64 ra, .slice a3 n c3] (by omega)).trans hx3; have hr4 := (setRow_other _ (w.heap.size + 1 + 1) (w.heap.size + 1) #[.int .i64 rs, .int .i64 ro, .int .i64 ra, .slice a3 n c3] (by omega)).trans hr3; have hz4 := hz3.on (Agree.row (r := (w.heap.size + 1 + 1)) (by rintro (h | h); (· have := hF _ h; omega); (· omega)) #[.int .i64 rs, .int .i64 ro, .int .i64 ra, .slice a3 n c3]); have hd4 := dice_far hd3 (grownBy_setRow w3 (w.heap.size + 1 + 1) #[.int .i64 rs, .int .i64 ro, .int .i64 ra, .slice a3 n c3]) (by omega); have G4 := grownBy_row G3 (x := (w.heap.size + 1 + 1)) (by omega) #[.int .i64 rs, .int .i64 ro, .int .i64 ra, .slice a3 n c3]; generalize w3.setRow (w.heap.size + 1 + 1) #[.int .i64 rs, .int .i64 ro, .int .i64 ra, .slice a3 n c3] = w4 at hv4 hx4 hr4 hz4 hd4 G4 ⊢; clear d0 d1 d2 d3 l0 l1 l2 l3; obtain ⟨y4, d0, d1, d2, d3⟩ := row4 hx4; obtain ⟨v4, l0, l1, l2, l3⟩ := row4 hv4)
    | ((with_reducible refine Plan.store_lit 24 (.tmp 6) _ (w.heap.size + 1) ?_ hr4 ?_ ?_ ?_ ?_ ?_ ?_); rotate_left; (· rfl); (· rfl); (· exact dev_info); (· rfl); (· simp [Value.oneCell']); simp only [Act.put]))
  have hzf := (((HZ.out.on (Agree.below HA.out)).mono (G := fun b => F b) (fun _ _ h => h)))
  have hzw : ZonesIn w4 F a n cap Z := HZ.out.on (agree_grown G4 hFg)
  have hz5 := hzw.on (Agree.row (r := w.heap.size + 1) (fun h => by have := hF _ h; omega) #[.int .i64 size, .int .i64 op, .int .i64 act, .slice a n cap])
  exact bodyPost_ret (results_cell_row rfl _ _ _ _ _ _ _ rfl (setRow_heap _ _ _ _ _ _ hr4) Try.underlying24 rfl dev_info) rfl ⟨⟨size, op, act, Z⟩, a, cap, _, rfl, hz5.mono (fun _ _ h => .inl h), hc, HKK.out.1, HKK.out.2, dice_far hd4 (grownBy_setRow w4 _ _) (by omega), grownBy_row G4 (by omega) _⟩
set_option maxHeartbeats 2000000 in
set_option maxRecDepth 20000 in
theorem cmd_open (F : Nat → Prop) (D : Dev) (a : Option Addr) (n cap base g : Nat) (zs : List Int) (k : Nat) (w : World) (hF : ∀ b, F b → b < w.heap.size) (hFg : ¬ F g) (hz : ZonesIn w F a n cap D.zones) (hn1 : 1 ≤ n) (hn : n ≤ 1000) (hc : checkE D = 0) (hd : Dice w base g zs k) (hl : zs.length ≤ 100000) (hk : k < zs.length) (hcc : nxt zs (stp zs k) 9 = 2) (hEE : ∀ i : Nat, nxt zs k (n : Int) = (i : Int) → openE D (i : Int) = 0) :
    Calls Try.prog 42 #[.pointer (some ⟨g, 0, none⟩), devV D a n cap, .int .i64 (n : Int)] w (CmdPost w F base g zs k n) := by
  have hgl := dice_lt hd
  have hlen := hz.is.length
  obtain ⟨i, hi, hin⟩ : ∃ i : Nat, nxt zs k (n : Int) = (i : Int) ∧ i < n := by
    have := nxt_range zs k (n : Int) (by omega)
    exact ⟨(nxt zs k (n : Int)).toNat, by omega, by omega⟩
  have hnx1 : ∀ W, Dice W base g zs k → Calls Try.prog 40 #[.pointer (some ⟨g, 0, none⟩), .int .i64 (n : Int)] W (NextPost W base g zs k (n : Int)) := fun W h => next_any W base g zs k n h hl (by omega) (by omega)
  have hnx2 : ∀ W, Dice W base g zs (stp zs k) → Calls Try.prog 40 #[.pointer (some ⟨g, 0, none⟩), .int .i64 9] W (NextPost W base g zs (stp zs k) 9) := fun W h => next_any W base g zs _ 9 h hl (by decide) (by decide)
  have hA : Below w.heap.size w ((w.alloc (devRow D.size D.maxOpen D.maxActive a n cap)).alloc (devRow 0 0 0 none 0 0)) := ((Below.refl _ _).alloc (Nat.le_refl _) _).alloc (by simp) _
  have ZI := Lib.hid hi
  have N1 := Lib.hid hnx1
  have N2 := Lib.hid hnx2
  have HA := Lib.hid hA
  have HZ := Lib.hid hz
  have D0 := Lib.hid (dice_alloc (dice_alloc hd (devRow D.size D.maxOpen D.maxActive a n cap)) (devRow 0 0 0 none 0 0))
  have hk' : k < stp zs (stp zs k) ∧ stp zs (stp zs k) ≤ zs.length := by
    rw [stp_step hk]
    have := stp_ge zs (k + 1)
    have := stp_end (zs := zs) (k := k + 1) (by omega)
    omega
  have HKK := Lib.hid hk'
  have hee := hEE i hi
  have hkp := (open_kept hc (k := i) (by omega)).1.valid
  have hop : ∀ W, (∀ b, F b → b < W.heap.size) → ZonesIn W F a n cap D.zones → Calls Try.prog 32 #[devV D a n cap, .int .i64 (i : Int)] W fun e w' => ∃ a' cap', e = .returned (.tuple #[devV (openR D (i : Int)) a' n cap', .int .i64 (openE D (i : Int))]) ∧ ZonesIn w' (Plus F W.heap.size) a' n cap' (openR D (i : Int)).zones ∧ Below W.heap.size W w' := fun W h1 h2 => refOpen_any F D a n cap i W h1 h2 (by omega)
  rw [hee] at hop
  generalize openR D (i : Int) = R at *
  have HO := Lib.hid hop
  have HC := Lib.hid hcc
  clear hop hnx1 hnx2 hA hd hi hcc hEE hee hk'
  unfold CmdPost
  obtain ⟨size, op, act, Z⟩ := D
  obtain ⟨rs, ro, ra, RZ⟩ := R
  go_enter Try.func42, Try.ntmps42
  go_wp2_with (first
    | (go_at_call 40; ((with_reducible refine (N1.out _ D0.out).mono ?_); rintro e w1 ⟨rfl, hd1, hg1, hs1⟩; rw [ZI.out]; have hx1 := row_grown hg1 (heap_first2 w _ _) (by omega); have hr1 := row_grown hg1 (heap_second w _ _) (by omega); have t1 : w1.heap.size = w.heap.size + 1 + 1 := hs1.trans (by simp only [World.size_alloc]); have hv1 : (w1.alloc (devRow size op act a n cap)).heap[w.heap.size + 1 + 1]? = some (devRow size op act a n cap) := (by rw [← t1]; exact heap_alloc_new w1 (devRow size op act a n cap)); have hx1' := row_al hx1 (devRow size op act a n cap); have hr1' := row_al hr1 (devRow size op act a n cap); obtain ⟨y1, d0, d1, d2, d3⟩ := row4 hx1; have hz1 := ((HZ.out.on (Agree.below HA.out)).on (agree_grown hg1 hFg)).on (Agree.below ((Below.refl _ _).alloc (Nat.le_refl _) (devRow size op act a n cap))); have G1 := grownBy_trans (grownBy_trans (below_grown HA.out g) hg1) (World.grownBy_alloc w1 (devRow size op act a n cap) (some g))))
    | (go_at_call 40; ((with_reducible refine (N2.out _ (dice_alloc hd1 _)).mono ?_); rintro e w2 ⟨rfl, hd2, hg2, hs2⟩; rw [HC.out]; have hx2 := row_grown hg2 hx1' (by omega); have hr2 := row_grown hg2 hr1' (by omega); have hv2 := row_grown hg2 hv1 (by omega); obtain ⟨y2, d0, d1, d2, d3⟩ := row4 hx2; have hz2 := hz1.on (agree_grown hg2 hFg); have t2 : w2.heap.size = w1.heap.size + 1 := hs2.trans (World.size_alloc _ _); have G2 := grownBy_trans G1 hg2; have l0 := (row4 hv2).2.1; have l1 := (row4 hv2).2.2.1; have l2 := (row4 hv2).2.2.2.1; have l3 := (row4 hv2).2.2.2.2))
    | (go_at_call 32; ((with_reducible refine (HO.out w2 (fun b hb => by have := hF b hb; omega) hz2).mono ?_); rintro e w3 ⟨a3, c3, rfl, hz3, hb3⟩; have hx3 := row_on hb3 hx2 (lt_of_block hx2); have hr3 := row_on hb3 hr2 (lt_of_block hr2); have hv3 := row_on hb3 hv2 (lt_of_block hv2); have hd3 := dice_on hd2 hb3 (Nat.le_refl _); have G3 := grownBy_trans G2 (below_grown hb3 g)))
    | ((with_reducible refine Plan.store_lit 24 (.tmp 8) _ (w.heap.size + 1 + 1) ?_ hv3 ?_ ?_ ?_ ?_ ?_ ?_); rotate_left; (· rfl); (· rfl); (· exact dev_info); (· rfl); (· simp [Value.oneCell']); simp only [Act.put]; have hv4 := setRow_heap _ _ _ #[.int .i64 rs, .int .i64 ro, .int .i64 ra, .slice a3 n c3] _ _ hv3; have hx4 := (setRow_other _ (w.heap.size + 1 + 1) w.heap.size #[.int .i64 rs, .int .i64 ro, .int .i64 ra, .slice a3 n c3] (by omega)).trans hx3; have hr4 := (setRow_other _ (w.heap.size + 1 + 1) (w.heap.size + 1) #[.int .i64 rs, .int .i64 ro, .int .i64 ra, .slice a3 n c3] (by omega)).trans hr3; have hz4 := hz3.on (Agree.row (r := (w.heap.size + 1 + 1)) (by rintro (h | h); (· have := hF _ h; omega); (· omega)) #[.int .i64 rs, .int .i64 ro, .int .i64 ra, .slice a3 n c3]); have hd4 := dice_far hd3 (grownBy_setRow w3 (w.heap.size + 1 + 1) #[.int .i64 rs, .int .i64 ro, .int .i64 ra, .slice a3 n c3]) (by omega); have G4 := grownBy_row G3 (x := (w.heap.size + 1 + 1)) (by omega) #[.int .i64 rs, .int .i64 ro, .int .i64 ra, .slice a3 n c3]; generalize w3.setRow (w.heap.size + 1 + 1) #[.int .i64 rs, .int .i64 ro, .int .i64 ra, .slice a3 n c3] = w4 at hv4 hx4 hr4 hz4 hd4 G4 ⊢; clear d0 d1 d2 d3 l0 l1 l2 l3; obtain ⟨y4, d0, d1, d2, d3⟩ := row4 hx4; obtain ⟨v4, l0, l1, l2, l3⟩ := row4 hv4)
    | ((with_reducible refine Plan.store_lit 24 (.tmp 6) _ (w.heap.size + 1) ?_ hr4 ?_ ?_ ?_ ?_ ?_ ?_); rotate_left; (· rfl); (· rfl); (· exact dev_info); (· rfl); (· simp [Value.oneCell']); simp only [Act.put]))
  have hz5 := hz4.on (Agree.row (r := w.heap.size + 1) (by rintro (h | h); (· have := hF _ h; omega); (· omega)) #[.int .i64 rs, .int .i64 ro, .int .i64 ra, .slice a3 n c3])
  exact bodyPost_ret (results_cell_row rfl _ _ _ _ _ _ _ rfl (setRow_heap _ _ _ _ _ _ hr4) Try.underlying24 rfl dev_info) rfl ⟨⟨rs, ro, ra, RZ⟩, a3, c3, _, rfl, hz5.mono (fun _ _ h => h.imp id (fun h => by omega)), hkp, HKK.out.1, HKK.out.2, dice_far hd4 (grownBy_setRow w4 _ _) (by omega), grownBy_row G4 (by omega) _⟩
set_option maxHeartbeats 2000000 in
set_option maxRecDepth 20000 in
theorem cmd_open_err (F : Nat → Prop) (D : Dev) (a : Option Addr) (n cap base g : Nat) (zs : List Int) (k : Nat) (w : World) (hF : ∀ b, F b → b < w.heap.size) (hFg : ¬ F g) (hz : ZonesIn w F a n cap D.zones) (hn1 : 1 ≤ n) (hn : n ≤ 1000) (hc : checkE D = 0) (hd : Dice w base g zs k) (hl : zs.length ≤ 100000) (hk : k < zs.length) (hcc : nxt zs (stp zs k) 9 = 2) (hEE : ∀ i : Nat, nxt zs k (n : Int) = (i : Int) → openE D (i : Int) ≠ 0) :
    Calls Try.prog 42 #[.pointer (some ⟨g, 0, none⟩), devV D a n cap, .int .i64 (n : Int)] w (CmdPost w F base g zs k n) := by
  have hgl := dice_lt hd
  have hlen := hz.is.length
  obtain ⟨i, hi, hin⟩ : ∃ i : Nat, nxt zs k (n : Int) = (i : Int) ∧ i < n := by
    have := nxt_range zs k (n : Int) (by omega)
    exact ⟨(nxt zs k (n : Int)).toNat, by omega, by omega⟩
  have hnx1 : ∀ W, Dice W base g zs k → Calls Try.prog 40 #[.pointer (some ⟨g, 0, none⟩), .int .i64 (n : Int)] W (NextPost W base g zs k (n : Int)) := fun W h => next_any W base g zs k n h hl (by omega) (by omega)
  have hnx2 : ∀ W, Dice W base g zs (stp zs k) → Calls Try.prog 40 #[.pointer (some ⟨g, 0, none⟩), .int .i64 9] W (NextPost W base g zs (stp zs k) 9) := fun W h => next_any W base g zs _ 9 h hl (by decide) (by decide)
  have hA : Below w.heap.size w ((w.alloc (devRow D.size D.maxOpen D.maxActive a n cap)).alloc (devRow 0 0 0 none 0 0)) := ((Below.refl _ _).alloc (Nat.le_refl _) _).alloc (by simp) _
  have ZI := Lib.hid hi
  have N1 := Lib.hid hnx1
  have N2 := Lib.hid hnx2
  have HA := Lib.hid hA
  have HZ := Lib.hid hz
  have D0 := Lib.hid (dice_alloc (dice_alloc hd (devRow D.size D.maxOpen D.maxActive a n cap)) (devRow 0 0 0 none 0 0))
  have hk' : k < stp zs (stp zs k) ∧ stp zs (stp zs k) ≤ zs.length := by
    rw [stp_step hk]
    have := stp_ge zs (k + 1)
    have := stp_end (zs := zs) (k := k + 1) (by omega)
    omega
  have HKK := Lib.hid hk'
  have hee := hEE i hi
  have hkp := (open_kept hc (k := i) (by omega)).1.valid
  have hop : ∀ W, (∀ b, F b → b < W.heap.size) → ZonesIn W F a n cap D.zones → Calls Try.prog 32 #[devV D a n cap, .int .i64 (i : Int)] W fun e w' => ∃ a' cap', e = .returned (.tuple #[devV (openR D (i : Int)) a' n cap', .int .i64 (openE D (i : Int))]) ∧ ZonesIn w' (Plus F W.heap.size) a' n cap' (openR D (i : Int)).zones ∧ Below W.heap.size W w' := fun W h1 h2 => refOpen_any F D a n cap i W h1 h2 (by omega)
  generalize openE D (i : Int) = E at *
  have he0 : (E != 0) = true := by simp [hee]
  generalize openR D (i : Int) = R at *
  have HO := Lib.hid hop
  have HC := Lib.hid hcc
  clear hop hnx1 hnx2 hA hd hi hcc hEE hee hk'
  unfold CmdPost
  obtain ⟨size, op, act, Z⟩ := D
  obtain ⟨rs, ro, ra, RZ⟩ := R
  go_enter Try.func42, Try.ntmps42
  go_wp2_with (first
    | (go_at_call 40; ((with_reducible refine (N1.out _ D0.out).mono ?_); rintro e w1 ⟨rfl, hd1, hg1, hs1⟩; rw [ZI.out]; have hx1 := row_grown hg1 (heap_first2 w _ _) (by omega); have hr1 := row_grown hg1 (heap_second w _ _) (by omega); have t1 : w1.heap.size = w.heap.size + 1 + 1 := hs1.trans (by simp only [World.size_alloc]); have hv1 : (w1.alloc (devRow size op act a n cap)).heap[w.heap.size + 1 + 1]? = some (devRow size op act a n cap) := (by rw [← t1]; exact heap_alloc_new w1 (devRow size op act a n cap)); have hx1' := row_al hx1 (devRow size op act a n cap); have hr1' := row_al hr1 (devRow size op act a n cap); obtain ⟨y1, d0, d1, d2, d3⟩ := row4 hx1; have hz1 := ((HZ.out.on (Agree.below HA.out)).on (agree_grown hg1 hFg)).on (Agree.below ((Below.refl _ _).alloc (Nat.le_refl _) (devRow size op act a n cap))); have G1 := grownBy_trans (grownBy_trans (below_grown HA.out g) hg1) (World.grownBy_alloc w1 (devRow size op act a n cap) (some g))))
    | (go_at_call 40; ((with_reducible refine (N2.out _ (dice_alloc hd1 _)).mono ?_); rintro e w2 ⟨rfl, hd2, hg2, hs2⟩; rw [HC.out]; have hx2 := row_grown hg2 hx1' (by omega); have hr2 := row_grown hg2 hr1' (by omega); have hv2 := row_grown hg2 hv1 (by omega); obtain ⟨y2, d0, d1, d2, d3⟩ := row4 hx2; have hz2 := hz1.on (agree_grown hg2 hFg); have t2 : w2.heap.size = w1.heap.size + 1 := hs2.trans (World.size_alloc _ _); have G2 := grownBy_trans G1 hg2; have l0 := (row4 hv2).2.1; have l1 := (row4 hv2).2.2.1; have l2 := (row4 hv2).2.2.2.1; have l3 := (row4 hv2).2.2.2.2))
    | (go_at_call 32; ((with_reducible refine (HO.out w2 (fun b hb => by have := hF b hb; omega) hz2).mono ?_); rintro e w3 ⟨a3, c3, rfl, hz3, hb3⟩; have hx3 := row_on hb3 hx2 (lt_of_block hx2); have hr3 := row_on hb3 hr2 (lt_of_block hr2); have hv3 := row_on hb3 hv2 (lt_of_block hv2); have hd3 := dice_on hd2 hb3 (Nat.le_refl _); have G3 := grownBy_trans G2 (below_grown hb3 g)))
    | ((with_reducible refine Plan.store_lit 24 (.tmp 8) _ (w.heap.size + 1 + 1) ?_ hv3 ?_ ?_ ?_ ?_ ?_ ?_); rotate_left; (· rfl); (· rfl); (· exact dev_info); (· rfl); (· simp [Value.oneCell']); simp only [Act.put]; have hv4 := setRow_heap _ _ _ #[.int .i64 rs, .int .i64 ro, .int .i64 ra, .slice a3 n c3] _ _ hv3; have hx4 := (setRow_other _ (w.heap.size + 1 + 1) w.heap.size #[.int .i64 rs, .int .i64 ro, .int .i64 ra, .slice a3 n c3] (by omega)).trans hx3; have hr4 := (setRow_other _ (w.heap.size + 1 + 1) (w.heap.size + 1) #[.int .i64 rs, .int .i64 ro, .int .i64 ra, .slice a3 n c3] (by omega)).trans hr3; have hz4 := hz3.on (Agree.row (r := (w.heap.size + 1 + 1)) (by rintro (h | h); (· have := hF _ h; omega); (· omega)) #[.int .i64 rs, .int .i64 ro, .int .i64 ra, .slice a3 n c3]); have hd4 := dice_far hd3 (grownBy_setRow w3 (w.heap.size + 1 + 1) #[.int .i64 rs, .int .i64 ro, .int .i64 ra, .slice a3 n c3]) (by omega); have G4 := grownBy_row G3 (x := (w.heap.size + 1 + 1)) (by omega) #[.int .i64 rs, .int .i64 ro, .int .i64 ra, .slice a3 n c3]; generalize w3.setRow (w.heap.size + 1 + 1) #[.int .i64 rs, .int .i64 ro, .int .i64 ra, .slice a3 n c3] = w4 at hv4 hx4 hr4 hz4 hd4 G4 ⊢; clear d0 d1 d2 d3 l0 l1 l2 l3; obtain ⟨y4, d0, d1, d2, d3⟩ := row4 hx4; obtain ⟨v4, l0, l1, l2, l3⟩ := row4 hv4)
    | ((with_reducible refine Plan.store_lit 24 (.tmp 6) _ (w.heap.size + 1) ?_ hr4 ?_ ?_ ?_ ?_ ?_ ?_); rotate_left; (· rfl); (· rfl); (· exact dev_info); (· rfl); (· simp [Value.oneCell']); simp only [Act.put]))
  have hzf := (((HZ.out.on (Agree.below HA.out)).mono (G := fun b => F b) (fun _ _ h => h)))
  have hzw : ZonesIn w4 F a n cap Z := HZ.out.on (agree_grown G4 hFg)
  have hz5 := hzw.on (Agree.row (r := w.heap.size + 1) (fun h => by have := hF _ h; omega) #[.int .i64 size, .int .i64 op, .int .i64 act, .slice a n cap])
  exact bodyPost_ret (results_cell_row rfl _ _ _ _ _ _ _ rfl (setRow_heap _ _ _ _ _ _ hr4) Try.underlying24 rfl dev_info) rfl ⟨⟨size, op, act, Z⟩, a, cap, _, rfl, hz5.mono (fun _ _ h => .inl h), hc, HKK.out.1, HKK.out.2, dice_far hd4 (grownBy_setRow w4 _ _) (by omega), grownBy_row G4 (by omega) _⟩
set_option maxHeartbeats 2000000 in
set_option maxRecDepth 20000 in
theorem cmd_close (F : Nat → Prop) (D : Dev) (a : Option Addr) (n cap base g : Nat) (zs : List Int) (k : Nat) (w : World) (hF : ∀ b, F b → b < w.heap.size) (hFg : ¬ F g) (hz : ZonesIn w F a n cap D.zones) (hn1 : 1 ≤ n) (hn : n ≤ 1000) (hc : checkE D = 0) (hd : Dice w base g zs k) (hl : zs.length ≤ 100000) (hk : k < zs.length) (hcc : nxt zs (stp zs k) 9 = 3) (hEE : ∀ i : Nat, nxt zs k (n : Int) = (i : Int) → closeE D (i : Int) = 0) :
    Calls Try.prog 42 #[.pointer (some ⟨g, 0, none⟩), devV D a n cap, .int .i64 (n : Int)] w (CmdPost w F base g zs k n) := by
  have hgl := dice_lt hd
  have hlen := hz.is.length
  obtain ⟨i, hi, hin⟩ : ∃ i : Nat, nxt zs k (n : Int) = (i : Int) ∧ i < n := by
    have := nxt_range zs k (n : Int) (by omega)
    exact ⟨(nxt zs k (n : Int)).toNat, by omega, by omega⟩
  have hnx1 : ∀ W, Dice W base g zs k → Calls Try.prog 40 #[.pointer (some ⟨g, 0, none⟩), .int .i64 (n : Int)] W (NextPost W base g zs k (n : Int)) := fun W h => next_any W base g zs k n h hl (by omega) (by omega)
  have hnx2 : ∀ W, Dice W base g zs (stp zs k) → Calls Try.prog 40 #[.pointer (some ⟨g, 0, none⟩), .int .i64 9] W (NextPost W base g zs (stp zs k) 9) := fun W h => next_any W base g zs _ 9 h hl (by decide) (by decide)
  have hA : Below w.heap.size w ((w.alloc (devRow D.size D.maxOpen D.maxActive a n cap)).alloc (devRow 0 0 0 none 0 0)) := ((Below.refl _ _).alloc (Nat.le_refl _) _).alloc (by simp) _
  have ZI := Lib.hid hi
  have N1 := Lib.hid hnx1
  have N2 := Lib.hid hnx2
  have HA := Lib.hid hA
  have HZ := Lib.hid hz
  have D0 := Lib.hid (dice_alloc (dice_alloc hd (devRow D.size D.maxOpen D.maxActive a n cap)) (devRow 0 0 0 none 0 0))
  have hk' : k < stp zs (stp zs k) ∧ stp zs (stp zs k) ≤ zs.length := by
    rw [stp_step hk]
    have := stp_ge zs (k + 1)
    have := stp_end (zs := zs) (k := k + 1) (by omega)
    omega
  have HKK := Lib.hid hk'
  have hee := hEE i hi
  have hkp := (close_kept hc (k := i) (by omega)).1.valid
  have hop : ∀ W, (∀ b, F b → b < W.heap.size) → ZonesIn W F a n cap D.zones → Calls Try.prog 34 #[devV D a n cap, .int .i64 (i : Int)] W fun e w' => ∃ a' cap', e = .returned (.tuple #[devV (closeR D (i : Int)) a' n cap', .int .i64 (closeE D (i : Int))]) ∧ ZonesIn w' (Plus F W.heap.size) a' n cap' (closeR D (i : Int)).zones ∧ Below W.heap.size W w' := fun W h1 h2 => refClose_any F D a n cap i W h1 h2 (by omega)
  rw [hee] at hop
  generalize closeR D (i : Int) = R at *
  have HO := Lib.hid hop
  have HC := Lib.hid hcc
  clear hop hnx1 hnx2 hA hd hi hcc hEE hee hk'
  unfold CmdPost
  obtain ⟨size, op, act, Z⟩ := D
  obtain ⟨rs, ro, ra, RZ⟩ := R
  go_enter Try.func42, Try.ntmps42
  go_wp2_with (first
    | (go_at_call 40; ((with_reducible refine (N1.out _ D0.out).mono ?_); rintro e w1 ⟨rfl, hd1, hg1, hs1⟩; rw [ZI.out]; have hx1 := row_grown hg1 (heap_first2 w _ _) (by omega); have hr1 := row_grown hg1 (heap_second w _ _) (by omega); have t1 : w1.heap.size = w.heap.size + 1 + 1 := hs1.trans (by simp only [World.size_alloc]); have hv1 : (w1.alloc (devRow size op act a n cap)).heap[w.heap.size + 1 + 1]? = some (devRow size op act a n cap) := (by rw [← t1]; exact heap_alloc_new w1 (devRow size op act a n cap)); have hx1' := row_al hx1 (devRow size op act a n cap); have hr1' := row_al hr1 (devRow size op act a n cap); obtain ⟨y1, d0, d1, d2, d3⟩ := row4 hx1; have hz1 := ((HZ.out.on (Agree.below HA.out)).on (agree_grown hg1 hFg)).on (Agree.below ((Below.refl _ _).alloc (Nat.le_refl _) (devRow size op act a n cap))); have G1 := grownBy_trans (grownBy_trans (below_grown HA.out g) hg1) (World.grownBy_alloc w1 (devRow size op act a n cap) (some g))))
    | (go_at_call 40; ((with_reducible refine (N2.out _ (dice_alloc hd1 _)).mono ?_); rintro e w2 ⟨rfl, hd2, hg2, hs2⟩; rw [HC.out]; have hx2 := row_grown hg2 hx1' (by omega); have hr2 := row_grown hg2 hr1' (by omega); have hv2 := row_grown hg2 hv1 (by omega); obtain ⟨y2, d0, d1, d2, d3⟩ := row4 hx2; have hz2 := hz1.on (agree_grown hg2 hFg); have t2 : w2.heap.size = w1.heap.size + 1 := hs2.trans (World.size_alloc _ _); have G2 := grownBy_trans G1 hg2; have l0 := (row4 hv2).2.1; have l1 := (row4 hv2).2.2.1; have l2 := (row4 hv2).2.2.2.1; have l3 := (row4 hv2).2.2.2.2))
    | (go_at_call 34; ((with_reducible refine (HO.out w2 (fun b hb => by have := hF b hb; omega) hz2).mono ?_); rintro e w3 ⟨a3, c3, rfl, hz3, hb3⟩; have hx3 := row_on hb3 hx2 (lt_of_block hx2); have hr3 := row_on hb3 hr2 (lt_of_block hr2); have hv3 := row_on hb3 hv2 (lt_of_block hv2); have hd3 := dice_on hd2 hb3 (Nat.le_refl _); have G3 := grownBy_trans G2 (below_grown hb3 g)))
    | ((with_reducible refine Plan.store_lit 24 (.tmp 8) _ (w.heap.size + 1 + 1) ?_ hv3 ?_ ?_ ?_ ?_ ?_ ?_); rotate_left; (· rfl); (· rfl); (· exact dev_info); (· rfl); (· simp [Value.oneCell']); simp only [Act.put]; have hv4 := setRow_heap _ _ _ #[.int .i64 rs, .int .i64 ro, .int .i64 ra, .slice a3 n c3] _ _ hv3; have hx4 := (setRow_other _ (w.heap.size + 1 + 1) w.heap.size #[.int .i64 rs, .int .i64 ro, .int .i64 ra, .slice a3 n c3] (by omega)).trans hx3; have hr4 := (setRow_other _ (w.heap.size + 1 + 1) (w.heap.size + 1) #[.int .i64 rs, .int .i64 ro, .int .i64 ra, .slice a3 n c3] (by omega)).trans hr3; have hz4 := hz3.on (Agree.row (r := (w.heap.size + 1 + 1)) (by rintro (h | h); (· have := hF _ h; omega); (· omega)) #[.int .i64 rs, .int .i64 ro, .int .i64 ra, .slice a3 n c3]); have hd4 := dice_far hd3 (grownBy_setRow w3 (w.heap.size + 1 + 1) #[.int .i64 rs, .int .i64 ro, .int .i64 ra, .slice a3 n c3]) (by omega); have G4 := grownBy_row G3 (x := (w.heap.size + 1 + 1)) (by omega) #[.int .i64 rs, .int .i64 ro, .int .i64 ra, .slice a3 n c3]; generalize w3.setRow (w.heap.size + 1 + 1) #[.int .i64 rs, .int .i64 ro, .int .i64 ra, .slice a3 n c3] = w4 at hv4 hx4 hr4 hz4 hd4 G4 ⊢; clear d0 d1 d2 d3 l0 l1 l2 l3; obtain ⟨y4, d0, d1, d2, d3⟩ := row4 hx4; obtain ⟨v4, l0, l1, l2, l3⟩ := row4 hv4)
    | ((with_reducible refine Plan.store_lit 24 (.tmp 6) _ (w.heap.size + 1) ?_ hr4 ?_ ?_ ?_ ?_ ?_ ?_); rotate_left; (· rfl); (· rfl); (· exact dev_info); (· rfl); (· simp [Value.oneCell']); simp only [Act.put]))
  have hz5 := hz4.on (Agree.row (r := w.heap.size + 1) (by rintro (h | h); (· have := hF _ h; omega); (· omega)) #[.int .i64 rs, .int .i64 ro, .int .i64 ra, .slice a3 n c3])
  exact bodyPost_ret (results_cell_row rfl _ _ _ _ _ _ _ rfl (setRow_heap _ _ _ _ _ _ hr4) Try.underlying24 rfl dev_info) rfl ⟨⟨rs, ro, ra, RZ⟩, a3, c3, _, rfl, hz5.mono (fun _ _ h => h.imp id (fun h => by omega)), hkp, HKK.out.1, HKK.out.2, dice_far hd4 (grownBy_setRow w4 _ _) (by omega), grownBy_row G4 (by omega) _⟩
set_option maxHeartbeats 2000000 in
set_option maxRecDepth 20000 in
theorem cmd_close_err (F : Nat → Prop) (D : Dev) (a : Option Addr) (n cap base g : Nat) (zs : List Int) (k : Nat) (w : World) (hF : ∀ b, F b → b < w.heap.size) (hFg : ¬ F g) (hz : ZonesIn w F a n cap D.zones) (hn1 : 1 ≤ n) (hn : n ≤ 1000) (hc : checkE D = 0) (hd : Dice w base g zs k) (hl : zs.length ≤ 100000) (hk : k < zs.length) (hcc : nxt zs (stp zs k) 9 = 3) (hEE : ∀ i : Nat, nxt zs k (n : Int) = (i : Int) → closeE D (i : Int) ≠ 0) :
    Calls Try.prog 42 #[.pointer (some ⟨g, 0, none⟩), devV D a n cap, .int .i64 (n : Int)] w (CmdPost w F base g zs k n) := by
  have hgl := dice_lt hd
  have hlen := hz.is.length
  obtain ⟨i, hi, hin⟩ : ∃ i : Nat, nxt zs k (n : Int) = (i : Int) ∧ i < n := by
    have := nxt_range zs k (n : Int) (by omega)
    exact ⟨(nxt zs k (n : Int)).toNat, by omega, by omega⟩
  have hnx1 : ∀ W, Dice W base g zs k → Calls Try.prog 40 #[.pointer (some ⟨g, 0, none⟩), .int .i64 (n : Int)] W (NextPost W base g zs k (n : Int)) := fun W h => next_any W base g zs k n h hl (by omega) (by omega)
  have hnx2 : ∀ W, Dice W base g zs (stp zs k) → Calls Try.prog 40 #[.pointer (some ⟨g, 0, none⟩), .int .i64 9] W (NextPost W base g zs (stp zs k) 9) := fun W h => next_any W base g zs _ 9 h hl (by decide) (by decide)
  have hA : Below w.heap.size w ((w.alloc (devRow D.size D.maxOpen D.maxActive a n cap)).alloc (devRow 0 0 0 none 0 0)) := ((Below.refl _ _).alloc (Nat.le_refl _) _).alloc (by simp) _
  have ZI := Lib.hid hi
  have N1 := Lib.hid hnx1
  have N2 := Lib.hid hnx2
  have HA := Lib.hid hA
  have HZ := Lib.hid hz
  have D0 := Lib.hid (dice_alloc (dice_alloc hd (devRow D.size D.maxOpen D.maxActive a n cap)) (devRow 0 0 0 none 0 0))
  have hk' : k < stp zs (stp zs k) ∧ stp zs (stp zs k) ≤ zs.length := by
    rw [stp_step hk]
    have := stp_ge zs (k + 1)
    have := stp_end (zs := zs) (k := k + 1) (by omega)
    omega
  have HKK := Lib.hid hk'
  have hee := hEE i hi
  have hkp := (close_kept hc (k := i) (by omega)).1.valid
  have hop : ∀ W, (∀ b, F b → b < W.heap.size) → ZonesIn W F a n cap D.zones → Calls Try.prog 34 #[devV D a n cap, .int .i64 (i : Int)] W fun e w' => ∃ a' cap', e = .returned (.tuple #[devV (closeR D (i : Int)) a' n cap', .int .i64 (closeE D (i : Int))]) ∧ ZonesIn w' (Plus F W.heap.size) a' n cap' (closeR D (i : Int)).zones ∧ Below W.heap.size W w' := fun W h1 h2 => refClose_any F D a n cap i W h1 h2 (by omega)
  generalize closeE D (i : Int) = E at *
  have he0 : (E != 0) = true := by simp [hee]
  generalize closeR D (i : Int) = R at *
  have HO := Lib.hid hop
  have HC := Lib.hid hcc
  clear hop hnx1 hnx2 hA hd hi hcc hEE hee hk'
  unfold CmdPost
  obtain ⟨size, op, act, Z⟩ := D
  obtain ⟨rs, ro, ra, RZ⟩ := R
  go_enter Try.func42, Try.ntmps42
  go_wp2_with (first
    | (go_at_call 40; ((with_reducible refine (N1.out _ D0.out).mono ?_); rintro e w1 ⟨rfl, hd1, hg1, hs1⟩; rw [ZI.out]; have hx1 := row_grown hg1 (heap_first2 w _ _) (by omega); have hr1 := row_grown hg1 (heap_second w _ _) (by omega); have t1 : w1.heap.size = w.heap.size + 1 + 1 := hs1.trans (by simp only [World.size_alloc]); have hv1 : (w1.alloc (devRow size op act a n cap)).heap[w.heap.size + 1 + 1]? = some (devRow size op act a n cap) := (by rw [← t1]; exact heap_alloc_new w1 (devRow size op act a n cap)); have hx1' := row_al hx1 (devRow size op act a n cap); have hr1' := row_al hr1 (devRow size op act a n cap); obtain ⟨y1, d0, d1, d2, d3⟩ := row4 hx1; have hz1 := ((HZ.out.on (Agree.below HA.out)).on (agree_grown hg1 hFg)).on (Agree.below ((Below.refl _ _).alloc (Nat.le_refl _) (devRow size op act a n cap))); have G1 := grownBy_trans (grownBy_trans (below_grown HA.out g) hg1) (World.grownBy_alloc w1 (devRow size op act a n cap) (some g))))
    | (go_at_call 40; ((with_reducible refine (N2.out _ (dice_alloc hd1 _)).mono ?_); rintro e w2 ⟨rfl, hd2, hg2, hs2⟩; rw [HC.out]; have hx2 := row_grown hg2 hx1' (by omega); have hr2 := row_grown hg2 hr1' (by omega); have hv2 := row_grown hg2 hv1 (by omega); obtain ⟨y2, d0, d1, d2, d3⟩ := row4 hx2; have hz2 := hz1.on (agree_grown hg2 hFg); have t2 : w2.heap.size = w1.heap.size + 1 := hs2.trans (World.size_alloc _ _); have G2 := grownBy_trans G1 hg2; have l0 := (row4 hv2).2.1; have l1 := (row4 hv2).2.2.1; have l2 := (row4 hv2).2.2.2.1; have l3 := (row4 hv2).2.2.2.2))
    | (go_at_call 34; ((with_reducible refine (HO.out w2 (fun b hb => by have := hF b hb; omega) hz2).mono ?_); rintro e w3 ⟨a3, c3, rfl, hz3, hb3⟩; have hx3 := row_on hb3 hx2 (lt_of_block hx2); have hr3 := row_on hb3 hr2 (lt_of_block hr2); have hv3 := row_on hb3 hv2 (lt_of_block hv2); have hd3 := dice_on hd2 hb3 (Nat.le_refl _); have G3 := grownBy_trans G2 (below_grown hb3 g)))
    | ((with_reducible refine Plan.store_lit 24 (.tmp 8) _ (w.heap.size + 1 + 1) ?_ hv3 ?_ ?_ ?_ ?_ ?_ ?_); rotate_left; (· rfl); (· rfl); (· exact dev_info); (· rfl); (· simp [Value.oneCell']); simp only [Act.put]; have hv4 := setRow_heap _ _ _ #[.int .i64 rs, .int .i64 ro, .int .i64 ra, .slice a3 n c3] _ _ hv3; have hx4 := (setRow_other _ (w.heap.size + 1 + 1) w.heap.size #[.int .i64 rs, .int .i64 ro, .int .i64 ra, .slice a3 n c3] (by omega)).trans hx3; have hr4 := (setRow_other _ (w.heap.size + 1 + 1) (w.heap.size + 1) #[.int .i64 rs, .int .i64 ro, .int .i64 ra, .slice a3 n c3] (by omega)).trans hr3; have hz4 := hz3.on (Agree.row (r := (w.heap.size + 1 + 1)) (by rintro (h | h); (· have := hF _ h; omega); (· omega)) #[.int .i64 rs, .int .i64 ro, .int .i64 ra, .slice a3 n c3]); have hd4 := dice_far hd3 (grownBy_setRow w3 (w.heap.size + 1 + 1) #[.int .i64 rs, .int .i64 ro, .int .i64 ra, .slice a3 n c3]) (by omega); have G4 := grownBy_row G3 (x := (w.heap.size + 1 + 1)) (by omega) #[.int .i64 rs, .int .i64 ro, .int .i64 ra, .slice a3 n c3]; generalize w3.setRow (w.heap.size + 1 + 1) #[.int .i64 rs, .int .i64 ro, .int .i64 ra, .slice a3 n c3] = w4 at hv4 hx4 hr4 hz4 hd4 G4 ⊢; clear d0 d1 d2 d3 l0 l1 l2 l3; obtain ⟨y4, d0, d1, d2, d3⟩ := row4 hx4; obtain ⟨v4, l0, l1, l2, l3⟩ := row4 hv4)
    | ((with_reducible refine Plan.store_lit 24 (.tmp 6) _ (w.heap.size + 1) ?_ hr4 ?_ ?_ ?_ ?_ ?_ ?_); rotate_left; (· rfl); (· rfl); (· exact dev_info); (· rfl); (· simp [Value.oneCell']); simp only [Act.put]))
  have hzf := (((HZ.out.on (Agree.below HA.out)).mono (G := fun b => F b) (fun _ _ h => h)))
  have hzw : ZonesIn w4 F a n cap Z := HZ.out.on (agree_grown G4 hFg)
  have hz5 := hzw.on (Agree.row (r := w.heap.size + 1) (fun h => by have := hF _ h; omega) #[.int .i64 size, .int .i64 op, .int .i64 act, .slice a n cap])
  exact bodyPost_ret (results_cell_row rfl _ _ _ _ _ _ _ rfl (setRow_heap _ _ _ _ _ _ hr4) Try.underlying24 rfl dev_info) rfl ⟨⟨size, op, act, Z⟩, a, cap, _, rfl, hz5.mono (fun _ _ h => .inl h), hc, HKK.out.1, HKK.out.2, dice_far hd4 (grownBy_setRow w4 _ _) (by omega), grownBy_row G4 (by omega) _⟩
end Go.Proofs.Ytlmlmgegnnikeaa

/- The walk of the maker's Command where it appends. -/
namespace Go.Proofs.Ytlmlmgegnnikeaa
open Go.RowKit Plan ZnsMath

theorem stp3_ge (zs : List Int) (k : Nat) : k ≤ stp3 zs k := by
  unfold stp3
  have a := stp_ge zs k
  have b := stp_ge zs (stp zs k)
  have c := stp_ge zs (stp zs (stp zs k))
  omega
theorem stp3_end {zs : List Int} {k : Nat} (h : k ≤ zs.length) : stp3 zs k ≤ zs.length := stp_end (stp_end (stp_end h))
set_option maxHeartbeats 2000000 in
set_option maxRecDepth 20000 in
theorem cmd_append (F : Nat → Prop) (D : Dev) (a : Option Addr) (n cap base g : Nat) (zs : List Int) (k : Nat) (w : World) (hF : ∀ b, F b → b < w.heap.size) (hFg : ¬ F g) (hz : ZonesIn w F a n cap D.zones) (hn1 : 1 ≤ n) (hn : n ≤ 1000) (hc : checkE D = 0) (hd : Dice w base g zs k) (hl : zs.length ≤ 100000) (hk : k < zs.length) (hcc : 5 ≤ nxt zs (stp zs k) 9) (hEE : ∀ (i : Nat) (s : ByteArray), nxt zs k (n : Int) = (i : Int) → s = ⟨(RecMath.encL (mk (madeK zs (stp zs (stp zs (stp zs k)))) (nxt zs (stp zs (stp zs (stp zs k))) 5) (1 + nxt zs (stp zs (stp zs k)) 40) 0 (madeP zs (stp zs (stp zs (stp zs k)))))).toArray⟩ → appendE D (i : Int) s = 0) :
    Calls Try.prog 42 #[.pointer (some ⟨g, 0, none⟩), devV D a n cap, .int .i64 (n : Int)] w (CmdPost w F base g zs k n) := by
  have hgl := dice_lt hd
  have hlen := hz.is.length
  obtain ⟨i, hi, hin⟩ : ∃ i : Nat, nxt zs k (n : Int) = (i : Int) ∧ i < n := by
    have := nxt_range zs k (n : Int) (by omega)
    exact ⟨(nxt zs k (n : Int)).toNat, by omega, by omega⟩
  have hnx1 : ∀ W, Dice W base g zs k → Calls Try.prog 40 #[.pointer (some ⟨g, 0, none⟩), .int .i64 (n : Int)] W (NextPost W base g zs k (n : Int)) := fun W h => next_any W base g zs k n h hl (by omega) (by omega)
  have hnx2 : ∀ W, Dice W base g zs (stp zs k) → Calls Try.prog 40 #[.pointer (some ⟨g, 0, none⟩), .int .i64 9] W (NextPost W base g zs (stp zs k) 9) := fun W h => next_any W base g zs _ 9 h hl (by decide) (by decide)
  have hA : Below w.heap.size w ((w.alloc (devRow D.size D.maxOpen D.maxActive a n cap)).alloc (devRow 0 0 0 none 0 0)) := ((Below.refl _ _).alloc (Nat.le_refl _) _).alloc (by simp) _
  have ZI := Lib.hid hi
  have N1 := Lib.hid hnx1
  have N2 := Lib.hid hnx2
  have HA := Lib.hid hA
  have HZ := Lib.hid hz
  have D0 := Lib.hid (dice_alloc (dice_alloc hd (devRow D.size D.maxOpen D.maxActive a n cap)) (devRow 0 0 0 none 0 0))
  have hk' : k < stp zs (stp zs k) ∧ stp zs (stp zs k) ≤ zs.length := by
    rw [stp_step hk]
    have := stp_ge zs (k + 1)
    have := stp_end (zs := zs) (k := k + 1) (by omega)
    omega
  have HKK := Lib.hid hk'
  have hnx3 : ∀ W, Dice W base g zs (stp zs (stp zs k)) → Calls Try.prog 40 #[.pointer (some ⟨g, 0, none⟩), .int .i64 40] W (NextPost W base g zs (stp zs (stp zs k)) 40) := fun W h => next_any W base g zs _ 40 h hl (by decide) (by decide)
  have hmd : ∀ W v, Dice W base g zs (stp zs (stp zs (stp zs k))) → Calls Try.prog 61 #[.pointer (some ⟨g, 0, none⟩), .int .i64 5, .int .i64 v] W (MadePost W base g zs (stp zs (stp zs (stp zs k))) 5 v) := fun W v h => made_any W base g zs _ 5 v h hl (by decide) (by decide)
  have hsec := fun b W => sector_made (madeK zs (stp zs (stp zs (stp zs k)))) (nxt zs (stp zs (stp zs (stp zs k))) 5) b 0 (madeP zs (stp zs (stp zs (stp zs k)))) W
  have hcr := nxt_range zs (stp zs k) 9 (by decide)
  have hvr := nxt_range zs (stp zs (stp zs k)) 40 (by decide)
  have hee := hEE i _ hi rfl
  generalize hcq : nxt zs (stp zs k) 9 = c at *
  unfold MadePost at hmd
  generalize madeK zs (stp zs (stp zs (stp zs k))) = mK at *
  generalize madeP zs (stp zs (stp zs (stp zs k))) = mP at *
  generalize nxt zs (stp zs (stp zs (stp zs k))) 5 = mB at *
  generalize hvq : nxt zs (stp zs (stp zs k)) 40 = v at *
  have hsec1 := hsec (1 + v)
  generalize (⟨(RecMath.encL (mk mK mB (1 + v) 0 mP)).toArray⟩ : ByteArray) = S at *
  clear hsec
  have hwv : IntKind.i64.wrap (1 + v) = 1 + v := by rw [IntKind.wrap_i64]; omega
  have q0 : (c == 0) = false := by simp; omega
  have q1 : (c == 1) = false := by simp; omega
  have q2 : (c == 2) = false := by simp; omega
  have q3 : (c == 3) = false := by simp; omega
  have q4 : (c == 4) = false := by simp; omega
  have hkp := (append_kept (s := S) hc (k := i) (by omega)).1.valid
  have hop : ∀ W, (∀ b, F b → b < W.heap.size) → ZonesIn W F a n cap D.zones → Calls Try.prog 25 #[devV D a n cap, .int .i64 (i : Int), .string S] W fun e w' => ∃ a' cap', e = .returned (.tuple #[devV (appendR D (i : Int) S) a' n cap', .int .i64 (appendO D (i : Int) S), .int .i64 (appendE D (i : Int) S)]) ∧ ZonesIn w' (Plus F W.heap.size) a' n cap' (appendR D (i : Int) S).zones ∧ Below W.heap.size W w' := fun W h1 h2 => refAppend_any F D a n cap i S W h1 h2 (by omega)
  rw [hee] at hop
  generalize appendR D (i : Int) S = R at *
  generalize appendO D (i : Int) S = O at *
  have hk3 : k < stp3 zs (stp zs (stp zs (stp zs k))) ∧ stp3 zs (stp zs (stp zs (stp zs k))) ≤ zs.length := by
    have a1 := stp3_ge zs (stp zs (stp zs (stp zs k)))
    have a2 := stp_ge zs (stp zs (stp zs k))
    exact ⟨by omega, stp3_end (stp_end hk'.2)⟩
  have HO := Lib.hid hop
  have HC := Lib.hid hcq
  have HV := Lib.hid hvq
  have N3 := Lib.hid hnx3
  have HM := Lib.hid hmd
  have HS := Lib.hid hsec1
  have HK3 := Lib.hid hk3
  clear hop hnx1 hnx2 hnx3 hmd hsec1 hA hd hi hcc hEE hee hk' hk3 HKK hcq hvq hcr hvr
  unfold CmdPost
  obtain ⟨size, op, act, Z⟩ := D
  obtain ⟨rs, ro, ra, RZ⟩ := R
  go_enter Try.func42, Try.ntmps42
  go_wp2_with (first
    | (go_at_call 40; ((with_reducible refine (N1.out _ D0.out).mono ?_); rintro e w1 ⟨rfl, hd1, hg1, hs1⟩; rw [ZI.out]; have hx1 := row_grown hg1 (heap_first2 w _ _) (by omega); have hr1 := row_grown hg1 (heap_second w _ _) (by omega); have t1 : w1.heap.size = w.heap.size + 1 + 1 := hs1.trans (by simp only [World.size_alloc]); have hv1 : (w1.alloc (devRow size op act a n cap)).heap[w.heap.size + 1 + 1]? = some (devRow size op act a n cap) := (by rw [← t1]; exact heap_alloc_new w1 (devRow size op act a n cap)); have hx1' := row_al hx1 (devRow size op act a n cap); have hr1' := row_al hr1 (devRow size op act a n cap); obtain ⟨y1, d0, d1, d2, d3⟩ := row4 hx1; have hz1 := ((HZ.out.on (Agree.below HA.out)).on (agree_grown hg1 hFg)).on (Agree.below ((Below.refl _ _).alloc (Nat.le_refl _) (devRow size op act a n cap))); have G1 := grownBy_trans (grownBy_trans (below_grown HA.out g) hg1) (World.grownBy_alloc w1 (devRow size op act a n cap) (some g))))
    | (go_at_call 40; ((with_reducible refine (N2.out _ (dice_alloc hd1 _)).mono ?_); rintro e w2 ⟨rfl, hd2, hg2, hs2⟩; rw [HC.out]; have hx2 := row_grown hg2 hx1' (by omega); have hr2 := row_grown hg2 hr1' (by omega); have hv2 := row_grown hg2 hv1 (by omega); obtain ⟨y2, d0, d1, d2, d3⟩ := row4 hx2; have hz2 := hz1.on (agree_grown hg2 hFg); have t2 : w2.heap.size = w1.heap.size + 1 := hs2.trans (World.size_alloc _ _); have G2 := grownBy_trans G1 hg2; have l0 := (row4 hv2).2.1; have l1 := (row4 hv2).2.2.1; have l2 := (row4 hv2).2.2.2.1; have l3 := (row4 hv2).2.2.2.2)))
  refine Plan.start (fun W => DevAt W w.heap.size size op act a n cap) [(0, true), (1, true), (2, true), (3, true), (4, false), (5, true), (6, false), (7, false), (8, false), (9, true), (10, true), (11, true), (12, true), (13, false), (14, true)] (by kernel_rfl) (by kernel_rfl) (by kernel_rfl) (by kernel_rfl) (row4 hx2).2 ?_
  simp only [List.map_cons, List.map_nil, List.getElem?_toArray, List.getElem?_cons_zero, List.getElem?_cons_succ]
  repeat (first | (refine Plan.take ?_ (by rfl) ?_ ?_; rotate_left; (· rintro w9 ⟨e0, e1, e2, e3⟩; go_simp; (try rw [if_neg (by omega)]); all_goals (with_reducible rfl)); simp only [Act.put, List.setIfInBounds_toArray, List.set_cons_zero, List.set_cons_succ]) | (refine Plan.pass (by rfl) ?_; simp only [Act.put, List.setIfInBounds_toArray, List.set_cons_zero, List.set_cons_succ]))
  refine Plan.call (by rfl) 40 _ ?_ (N3.out _ (dice_drew hd2)) ?_
  · go_simp
  rintro e w3 ⟨rfl, hd3, hg3, hs3⟩
  have hg3 := grownBy_trans (grownBy_drew w2 (some g)) hg3
  have hs3 : w3.heap.size = w2.heap.size := hs3
  rw [HV.out]
  have hx3 := row_grown hg3 hx2 (by omega)
  have hr3 := row_grown hg3 hr2 (by omega)
  have hv3 := row_grown hg3 hv2 (by omega)
  have hz3 := hz2.on (agree_grown hg3 hFg)
  have G3 := grownBy_trans G2 hg3
  refine ⟨_, rfl, (row4 hx3).2, ?_⟩
  simp only [Act.put, List.setIfInBounds_toArray, List.set_cons_zero, List.set_cons_succ]
  repeat (first | (refine Plan.take ?_ (by rfl) ?_ ?_; rotate_left; (· rintro w9 ⟨e0, e1, e2, e3⟩; go_simp; (try rw [if_neg (by omega)]); all_goals (with_reducible rfl)); simp only [Act.put, List.setIfInBounds_toArray, List.set_cons_zero, List.set_cons_succ]) | (refine Plan.pass (by rfl) ?_; simp only [Act.put, List.setIfInBounds_toArray, List.set_cons_zero, List.set_cons_succ]))
  refine Plan.call (by rfl) 61 _ ?_ (HM.out _ (1 + v) hd3) ?_
  · go_simp
  rintro e w4 ⟨rfl, hd4, hg4⟩
  have hx4 := row_grown hg4 hx3 (by omega)
  have hr4 := row_grown hg4 hr3 (by omega)
  have hv4 := row_grown hg4 hv3 (by omega)
  have hz4 := hz3.on (agree_grown hg4 hFg)
  have G4 := grownBy_trans G3 hg4
  refine ⟨_, rfl, (row4 hx4).2, ?_⟩
  simp only [Act.put, List.setIfInBounds_toArray, List.set_cons_zero, List.set_cons_succ]
  refine Plan.call (by rfl) 17 _ ?_ (HS.out _) ?_
  · go_simp
  rintro e w5 ⟨rfl, hb5⟩
  have hx5 := row_on hb5 hx4 (lt_of_block hx4)
  have hr5 := row_on hb5 hr4 (lt_of_block hr4)
  have hv5 := row_on hb5 hv4 (lt_of_block hv4)
  have hz5 := hz4.on (Agree.below hb5)
  have hd5 := dice_on hd4 hb5 (Nat.le_refl _)
  have G5 := grownBy_trans G4 (below_grown hb5 g)
  refine ⟨_, rfl, (row4 hx5).2, ?_⟩
  simp only [Act.put, List.setIfInBounds_toArray, List.set_cons_zero, List.set_cons_succ]
  have hlv := lt_of_block hv5
  refine Plan.call (by rfl) 25 _ ?_ (HO.out w5 (fun b hb => by have := hF b hb; omega) hz5) ?_
  · go_simp
  rintro e w6 ⟨a3, c3, rfl, hz6, hb6⟩
  have hx6 := row_on hb6 hx5 (lt_of_block hx5)
  have hr6 := row_on hb6 hr5 (lt_of_block hr5)
  have hv6 := row_on hb6 hv5 (lt_of_block hv5)
  have hd6 := dice_on hd5 hb6 (Nat.le_refl _)
  have G6 := grownBy_trans G5 (below_grown hb6 g)
  refine ⟨_, rfl, (row4 hx6).2, ?_⟩
  simp only [Act.put, List.setIfInBounds_toArray, List.set_cons_zero, List.set_cons_succ]
  repeat (first | (refine Plan.take ?_ (by rfl) ?_ ?_; rotate_left; (· rintro w9 ⟨e0, e1, e2, e3⟩; go_simp; (try rw [if_neg (by omega)]); all_goals (with_reducible rfl)); simp only [Act.put, List.setIfInBounds_toArray, List.set_cons_zero, List.set_cons_succ]) | (refine Plan.pass (by rfl) ?_; simp only [Act.put, List.setIfInBounds_toArray, List.set_cons_zero, List.set_cons_succ]))
  have hv7 := setRow_heap w6 (w.heap.size + 1 + 1) _ #[.int .i64 rs, .int .i64 ro, .int .i64 ra, .slice a3 n c3] _ _ hv6
  have hx7 := (setRow_other w6 (w.heap.size + 1 + 1) w.heap.size #[.int .i64 rs, .int .i64 ro, .int .i64 ra, .slice a3 n c3] (by omega)).trans hx6
  have hr7 := (setRow_other w6 (w.heap.size + 1 + 1) (w.heap.size + 1) #[.int .i64 rs, .int .i64 ro, .int .i64 ra, .slice a3 n c3] (by omega)).trans hr6
  have hz7 := hz6.on (Agree.row (r := (w.heap.size + 1 + 1)) (by rintro (h | h); (· have := hF _ h; omega); (· omega)) #[.int .i64 rs, .int .i64 ro, .int .i64 ra, .slice a3 n c3])
  have hd7 := dice_far hd6 (grownBy_setRow w6 (w.heap.size + 1 + 1) #[.int .i64 rs, .int .i64 ro, .int .i64 ra, .slice a3 n c3]) (by omega)
  have G7 := grownBy_row G6 (x := (w.heap.size + 1 + 1)) (by omega) #[.int .i64 rs, .int .i64 ro, .int .i64 ra, .slice a3 n c3]
  refine Plan.store (by rfl) 24 _ _ rfl (w.heap.size + 1 + 1) #[.int .i64 rs, .int .i64 ro, .int .i64 ra, .slice a3 n c3] (by rfl) (by rfl) 24 _ hv6 dev_info rfl (by simp [Value.oneCell']) (row4 hx7).2 ?_
  simp only [Act.put]
  generalize w6.setRow (w.heap.size + 1 + 1) #[.int .i64 rs, .int .i64 ro, .int .i64 ra, .slice a3 n c3] = w7 at hv7 hx7 hr7 hz7 hd7 G7 ⊢
  repeat (first | (refine Plan.take ?_ (by rfl) ?_ ?_; rotate_left; (· rintro w9 ⟨e0, e1, e2, e3⟩; go_simp; (try rw [if_neg (by omega)]); all_goals (with_reducible rfl)); simp only [Act.put, List.setIfInBounds_toArray, List.set_cons_zero, List.set_cons_succ]) | (refine Plan.pass (by rfl) ?_; simp only [Act.put, List.setIfInBounds_toArray, List.set_cons_zero, List.set_cons_succ]))
  refine Plan.ends ?_
  clear d0 d1 d2 d3 l0 l1 l2 l3
  obtain ⟨y7, d0, d1, d2, d3⟩ := row4 hx7
  obtain ⟨v7, l0, l1, l2, l3⟩ := row4 hv7
  go_wp2_with (first
    | ((with_reducible refine Plan.store_lit 24 (.tmp 6) _ (w.heap.size + 1) ?_ hr7 ?_ ?_ ?_ ?_ ?_ ?_); rotate_left; (· rfl); (· rfl); (· exact dev_info); (· rfl); (· simp [Value.oneCell']); simp only [Act.put]))
  have hz8 := hz7.on (Agree.row (r := w.heap.size + 1) (by rintro (h | h); (· have := hF _ h; omega); (· omega)) #[.int .i64 rs, .int .i64 ro, .int .i64 ra, .slice a3 n c3])
  have n5 := G5.size
  exact bodyPost_ret (results_cell_row rfl _ _ _ _ _ _ _ rfl (setRow_heap _ _ _ _ _ _ hr7) Try.underlying24 rfl dev_info) rfl ⟨⟨rs, ro, ra, RZ⟩, a3, c3, _, rfl, hz8.mono (fun _ _ h => h.imp id (fun h => by omega)), hkp, HK3.out.1, HK3.out.2, dice_far hd7 (grownBy_setRow w7 _ _) (by omega), grownBy_row G7 (by omega) _⟩
set_option maxHeartbeats 2000000 in
set_option maxRecDepth 20000 in
theorem cmd_append_err (F : Nat → Prop) (D : Dev) (a : Option Addr) (n cap base g : Nat) (zs : List Int) (k : Nat) (w : World) (hF : ∀ b, F b → b < w.heap.size) (hFg : ¬ F g) (hz : ZonesIn w F a n cap D.zones) (hn1 : 1 ≤ n) (hn : n ≤ 1000) (hc : checkE D = 0) (hd : Dice w base g zs k) (hl : zs.length ≤ 100000) (hk : k < zs.length) (hcc : 5 ≤ nxt zs (stp zs k) 9) (hEE : ∀ (i : Nat) (s : ByteArray), nxt zs k (n : Int) = (i : Int) → s = ⟨(RecMath.encL (mk (madeK zs (stp zs (stp zs (stp zs k)))) (nxt zs (stp zs (stp zs (stp zs k))) 5) (1 + nxt zs (stp zs (stp zs k)) 40) 0 (madeP zs (stp zs (stp zs (stp zs k)))))).toArray⟩ → appendE D (i : Int) s ≠ 0) :
    Calls Try.prog 42 #[.pointer (some ⟨g, 0, none⟩), devV D a n cap, .int .i64 (n : Int)] w (CmdPost w F base g zs k n) := by
  have hgl := dice_lt hd
  have hlen := hz.is.length
  obtain ⟨i, hi, hin⟩ : ∃ i : Nat, nxt zs k (n : Int) = (i : Int) ∧ i < n := by
    have := nxt_range zs k (n : Int) (by omega)
    exact ⟨(nxt zs k (n : Int)).toNat, by omega, by omega⟩
  have hnx1 : ∀ W, Dice W base g zs k → Calls Try.prog 40 #[.pointer (some ⟨g, 0, none⟩), .int .i64 (n : Int)] W (NextPost W base g zs k (n : Int)) := fun W h => next_any W base g zs k n h hl (by omega) (by omega)
  have hnx2 : ∀ W, Dice W base g zs (stp zs k) → Calls Try.prog 40 #[.pointer (some ⟨g, 0, none⟩), .int .i64 9] W (NextPost W base g zs (stp zs k) 9) := fun W h => next_any W base g zs _ 9 h hl (by decide) (by decide)
  have hA : Below w.heap.size w ((w.alloc (devRow D.size D.maxOpen D.maxActive a n cap)).alloc (devRow 0 0 0 none 0 0)) := ((Below.refl _ _).alloc (Nat.le_refl _) _).alloc (by simp) _
  have ZI := Lib.hid hi
  have N1 := Lib.hid hnx1
  have N2 := Lib.hid hnx2
  have HA := Lib.hid hA
  have HZ := Lib.hid hz
  have D0 := Lib.hid (dice_alloc (dice_alloc hd (devRow D.size D.maxOpen D.maxActive a n cap)) (devRow 0 0 0 none 0 0))
  have hk' : k < stp zs (stp zs k) ∧ stp zs (stp zs k) ≤ zs.length := by
    rw [stp_step hk]
    have := stp_ge zs (k + 1)
    have := stp_end (zs := zs) (k := k + 1) (by omega)
    omega
  have HKK := Lib.hid hk'
  have hnx3 : ∀ W, Dice W base g zs (stp zs (stp zs k)) → Calls Try.prog 40 #[.pointer (some ⟨g, 0, none⟩), .int .i64 40] W (NextPost W base g zs (stp zs (stp zs k)) 40) := fun W h => next_any W base g zs _ 40 h hl (by decide) (by decide)
  have hmd : ∀ W v, Dice W base g zs (stp zs (stp zs (stp zs k))) → Calls Try.prog 61 #[.pointer (some ⟨g, 0, none⟩), .int .i64 5, .int .i64 v] W (MadePost W base g zs (stp zs (stp zs (stp zs k))) 5 v) := fun W v h => made_any W base g zs _ 5 v h hl (by decide) (by decide)
  have hsec := fun b W => sector_made (madeK zs (stp zs (stp zs (stp zs k)))) (nxt zs (stp zs (stp zs (stp zs k))) 5) b 0 (madeP zs (stp zs (stp zs (stp zs k)))) W
  have hcr := nxt_range zs (stp zs k) 9 (by decide)
  have hvr := nxt_range zs (stp zs (stp zs k)) 40 (by decide)
  have hee := hEE i _ hi rfl
  generalize hcq : nxt zs (stp zs k) 9 = c at *
  unfold MadePost at hmd
  generalize madeK zs (stp zs (stp zs (stp zs k))) = mK at *
  generalize madeP zs (stp zs (stp zs (stp zs k))) = mP at *
  generalize nxt zs (stp zs (stp zs (stp zs k))) 5 = mB at *
  generalize hvq : nxt zs (stp zs (stp zs k)) 40 = v at *
  have hsec1 := hsec (1 + v)
  generalize (⟨(RecMath.encL (mk mK mB (1 + v) 0 mP)).toArray⟩ : ByteArray) = S at *
  clear hsec
  have hwv : IntKind.i64.wrap (1 + v) = 1 + v := by rw [IntKind.wrap_i64]; omega
  have q0 : (c == 0) = false := by simp; omega
  have q1 : (c == 1) = false := by simp; omega
  have q2 : (c == 2) = false := by simp; omega
  have q3 : (c == 3) = false := by simp; omega
  have q4 : (c == 4) = false := by simp; omega
  have hkp := (append_kept (s := S) hc (k := i) (by omega)).1.valid
  have hop : ∀ W, (∀ b, F b → b < W.heap.size) → ZonesIn W F a n cap D.zones → Calls Try.prog 25 #[devV D a n cap, .int .i64 (i : Int), .string S] W fun e w' => ∃ a' cap', e = .returned (.tuple #[devV (appendR D (i : Int) S) a' n cap', .int .i64 (appendO D (i : Int) S), .int .i64 (appendE D (i : Int) S)]) ∧ ZonesIn w' (Plus F W.heap.size) a' n cap' (appendR D (i : Int) S).zones ∧ Below W.heap.size W w' := fun W h1 h2 => refAppend_any F D a n cap i S W h1 h2 (by omega)
  generalize appendE D (i : Int) S = E at *
  have he0 : (E != 0) = true := by simp [hee]
  generalize appendR D (i : Int) S = R at *
  generalize appendO D (i : Int) S = O at *
  have hk3 : k < stp3 zs (stp zs (stp zs (stp zs k))) ∧ stp3 zs (stp zs (stp zs (stp zs k))) ≤ zs.length := by
    have a1 := stp3_ge zs (stp zs (stp zs (stp zs k)))
    have a2 := stp_ge zs (stp zs (stp zs k))
    exact ⟨by omega, stp3_end (stp_end hk'.2)⟩
  have HO := Lib.hid hop
  have HC := Lib.hid hcq
  have HV := Lib.hid hvq
  have N3 := Lib.hid hnx3
  have HM := Lib.hid hmd
  have HS := Lib.hid hsec1
  have HK3 := Lib.hid hk3
  clear hop hnx1 hnx2 hnx3 hmd hsec1 hA hd hi hcc hEE hee hk' hk3 HKK hcq hvq hcr hvr
  unfold CmdPost
  obtain ⟨size, op, act, Z⟩ := D
  obtain ⟨rs, ro, ra, RZ⟩ := R
  go_enter Try.func42, Try.ntmps42
  go_wp2_with (first
    | (go_at_call 40; ((with_reducible refine (N1.out _ D0.out).mono ?_); rintro e w1 ⟨rfl, hd1, hg1, hs1⟩; rw [ZI.out]; have hx1 := row_grown hg1 (heap_first2 w _ _) (by omega); have hr1 := row_grown hg1 (heap_second w _ _) (by omega); have t1 : w1.heap.size = w.heap.size + 1 + 1 := hs1.trans (by simp only [World.size_alloc]); have hv1 : (w1.alloc (devRow size op act a n cap)).heap[w.heap.size + 1 + 1]? = some (devRow size op act a n cap) := (by rw [← t1]; exact heap_alloc_new w1 (devRow size op act a n cap)); have hx1' := row_al hx1 (devRow size op act a n cap); have hr1' := row_al hr1 (devRow size op act a n cap); obtain ⟨y1, d0, d1, d2, d3⟩ := row4 hx1; have hz1 := ((HZ.out.on (Agree.below HA.out)).on (agree_grown hg1 hFg)).on (Agree.below ((Below.refl _ _).alloc (Nat.le_refl _) (devRow size op act a n cap))); have G1 := grownBy_trans (grownBy_trans (below_grown HA.out g) hg1) (World.grownBy_alloc w1 (devRow size op act a n cap) (some g))))
    | (go_at_call 40; ((with_reducible refine (N2.out _ (dice_alloc hd1 _)).mono ?_); rintro e w2 ⟨rfl, hd2, hg2, hs2⟩; rw [HC.out]; have hx2 := row_grown hg2 hx1' (by omega); have hr2 := row_grown hg2 hr1' (by omega); have hv2 := row_grown hg2 hv1 (by omega); obtain ⟨y2, d0, d1, d2, d3⟩ := row4 hx2; have hz2 := hz1.on (agree_grown hg2 hFg); have t2 : w2.heap.size = w1.heap.size + 1 := hs2.trans (World.size_alloc _ _); have G2 := grownBy_trans G1 hg2; have l0 := (row4 hv2).2.1; have l1 := (row4 hv2).2.2.1; have l2 := (row4 hv2).2.2.2.1; have l3 := (row4 hv2).2.2.2.2)))
  refine Plan.start (fun W => DevAt W w.heap.size size op act a n cap) [(0, true), (1, true), (2, true), (3, true), (4, false), (5, true), (6, false), (7, false), (8, false), (9, true), (10, true), (11, true), (12, true), (13, false), (14, true)] (by kernel_rfl) (by kernel_rfl) (by kernel_rfl) (by kernel_rfl) (row4 hx2).2 ?_
  simp only [List.map_cons, List.map_nil, List.getElem?_toArray, List.getElem?_cons_zero, List.getElem?_cons_succ]
  repeat (first | (refine Plan.take ?_ (by rfl) ?_ ?_; rotate_left; (· rintro w9 ⟨e0, e1, e2, e3⟩; go_simp; (try rw [if_neg (by omega)]); all_goals (with_reducible rfl)); simp only [Act.put, List.setIfInBounds_toArray, List.set_cons_zero, List.set_cons_succ]) | (refine Plan.pass (by rfl) ?_; simp only [Act.put, List.setIfInBounds_toArray, List.set_cons_zero, List.set_cons_succ]))
  refine Plan.call (by rfl) 40 _ ?_ (N3.out _ (dice_drew hd2)) ?_
  · go_simp
  rintro e w3 ⟨rfl, hd3, hg3, hs3⟩
  have hg3 := grownBy_trans (grownBy_drew w2 (some g)) hg3
  have hs3 : w3.heap.size = w2.heap.size := hs3
  rw [HV.out]
  have hx3 := row_grown hg3 hx2 (by omega)
  have hr3 := row_grown hg3 hr2 (by omega)
  have hv3 := row_grown hg3 hv2 (by omega)
  have hz3 := hz2.on (agree_grown hg3 hFg)
  have G3 := grownBy_trans G2 hg3
  refine ⟨_, rfl, (row4 hx3).2, ?_⟩
  simp only [Act.put, List.setIfInBounds_toArray, List.set_cons_zero, List.set_cons_succ]
  repeat (first | (refine Plan.take ?_ (by rfl) ?_ ?_; rotate_left; (· rintro w9 ⟨e0, e1, e2, e3⟩; go_simp; (try rw [if_neg (by omega)]); all_goals (with_reducible rfl)); simp only [Act.put, List.setIfInBounds_toArray, List.set_cons_zero, List.set_cons_succ]) | (refine Plan.pass (by rfl) ?_; simp only [Act.put, List.setIfInBounds_toArray, List.set_cons_zero, List.set_cons_succ]))
  refine Plan.call (by rfl) 61 _ ?_ (HM.out _ (1 + v) hd3) ?_
  · go_simp
  rintro e w4 ⟨rfl, hd4, hg4⟩
  have hx4 := row_grown hg4 hx3 (by omega)
  have hr4 := row_grown hg4 hr3 (by omega)
  have hv4 := row_grown hg4 hv3 (by omega)
  have hz4 := hz3.on (agree_grown hg4 hFg)
  have G4 := grownBy_trans G3 hg4
  refine ⟨_, rfl, (row4 hx4).2, ?_⟩
  simp only [Act.put, List.setIfInBounds_toArray, List.set_cons_zero, List.set_cons_succ]
  refine Plan.call (by rfl) 17 _ ?_ (HS.out _) ?_
  · go_simp
  rintro e w5 ⟨rfl, hb5⟩
  have hx5 := row_on hb5 hx4 (lt_of_block hx4)
  have hr5 := row_on hb5 hr4 (lt_of_block hr4)
  have hv5 := row_on hb5 hv4 (lt_of_block hv4)
  have hz5 := hz4.on (Agree.below hb5)
  have hd5 := dice_on hd4 hb5 (Nat.le_refl _)
  have G5 := grownBy_trans G4 (below_grown hb5 g)
  refine ⟨_, rfl, (row4 hx5).2, ?_⟩
  simp only [Act.put, List.setIfInBounds_toArray, List.set_cons_zero, List.set_cons_succ]
  have hlv := lt_of_block hv5
  refine Plan.call (by rfl) 25 _ ?_ (HO.out w5 (fun b hb => by have := hF b hb; omega) hz5) ?_
  · go_simp
  rintro e w6 ⟨a3, c3, rfl, hz6, hb6⟩
  have hx6 := row_on hb6 hx5 (lt_of_block hx5)
  have hr6 := row_on hb6 hr5 (lt_of_block hr5)
  have hv6 := row_on hb6 hv5 (lt_of_block hv5)
  have hd6 := dice_on hd5 hb6 (Nat.le_refl _)
  have G6 := grownBy_trans G5 (below_grown hb6 g)
  refine ⟨_, rfl, (row4 hx6).2, ?_⟩
  simp only [Act.put, List.setIfInBounds_toArray, List.set_cons_zero, List.set_cons_succ]
  repeat (first | (refine Plan.take ?_ (by rfl) ?_ ?_; rotate_left; (· rintro w9 ⟨e0, e1, e2, e3⟩; go_simp; (try rw [if_neg (by omega)]); all_goals (with_reducible rfl)); simp only [Act.put, List.setIfInBounds_toArray, List.set_cons_zero, List.set_cons_succ]) | (refine Plan.pass (by rfl) ?_; simp only [Act.put, List.setIfInBounds_toArray, List.set_cons_zero, List.set_cons_succ]))
  have hv7 := setRow_heap w6 (w.heap.size + 1 + 1) _ #[.int .i64 rs, .int .i64 ro, .int .i64 ra, .slice a3 n c3] _ _ hv6
  have hx7 := (setRow_other w6 (w.heap.size + 1 + 1) w.heap.size #[.int .i64 rs, .int .i64 ro, .int .i64 ra, .slice a3 n c3] (by omega)).trans hx6
  have hr7 := (setRow_other w6 (w.heap.size + 1 + 1) (w.heap.size + 1) #[.int .i64 rs, .int .i64 ro, .int .i64 ra, .slice a3 n c3] (by omega)).trans hr6
  have hz7 := hz6.on (Agree.row (r := (w.heap.size + 1 + 1)) (by rintro (h | h); (· have := hF _ h; omega); (· omega)) #[.int .i64 rs, .int .i64 ro, .int .i64 ra, .slice a3 n c3])
  have hd7 := dice_far hd6 (grownBy_setRow w6 (w.heap.size + 1 + 1) #[.int .i64 rs, .int .i64 ro, .int .i64 ra, .slice a3 n c3]) (by omega)
  have G7 := grownBy_row G6 (x := (w.heap.size + 1 + 1)) (by omega) #[.int .i64 rs, .int .i64 ro, .int .i64 ra, .slice a3 n c3]
  refine Plan.store (by rfl) 24 _ _ rfl (w.heap.size + 1 + 1) #[.int .i64 rs, .int .i64 ro, .int .i64 ra, .slice a3 n c3] (by rfl) (by rfl) 24 _ hv6 dev_info rfl (by simp [Value.oneCell']) (row4 hx7).2 ?_
  simp only [Act.put]
  generalize w6.setRow (w.heap.size + 1 + 1) #[.int .i64 rs, .int .i64 ro, .int .i64 ra, .slice a3 n c3] = w7 at hv7 hx7 hr7 hz7 hd7 G7 ⊢
  repeat (first | (refine Plan.take ?_ (by rfl) ?_ ?_; rotate_left; (· rintro w9 ⟨e0, e1, e2, e3⟩; go_simp; (try rw [if_neg (by omega)]); all_goals (with_reducible rfl)); simp only [Act.put, List.setIfInBounds_toArray, List.set_cons_zero, List.set_cons_succ]) | (refine Plan.pass (by rfl) ?_; simp only [Act.put, List.setIfInBounds_toArray, List.set_cons_zero, List.set_cons_succ]))
  refine Plan.ends ?_
  clear d0 d1 d2 d3 l0 l1 l2 l3
  obtain ⟨y7, d0, d1, d2, d3⟩ := row4 hx7
  obtain ⟨v7, l0, l1, l2, l3⟩ := row4 hv7
  go_wp2_with (first
    | ((with_reducible refine Plan.store_lit 24 (.tmp 6) _ (w.heap.size + 1) ?_ hr7 ?_ ?_ ?_ ?_ ?_ ?_); rotate_left; (· rfl); (· rfl); (· exact dev_info); (· rfl); (· simp [Value.oneCell']); simp only [Act.put]))
  have hzw : ZonesIn w7 F a n cap Z := HZ.out.on (agree_grown G7 hFg)
  have hz8 := hzw.on (Agree.row (r := w.heap.size + 1) (fun h => by have := hF _ h; omega) #[.int .i64 size, .int .i64 op, .int .i64 act, .slice a n cap])
  exact bodyPost_ret (results_cell_row rfl _ _ _ _ _ _ _ rfl (setRow_heap _ _ _ _ _ _ hr7) Try.underlying24 rfl dev_info) rfl ⟨⟨size, op, act, Z⟩, a, cap, _, rfl, hz8.mono (fun _ _ h => .inl h), hc, HK3.out.1, HK3.out.2, dice_far hd7 (grownBy_setRow w7 _ _) (by omega), grownBy_row G7 (by omega) _⟩
end Go.Proofs.Ytlmlmgegnnikeaa

/- The walk of the maker's Command that makes all sectors durable, and Command whole. -/
namespace Go.Proofs.Ytlmlmgegnnikeaa
open Go.RowKit Plan ZnsMath

def durZ (z : Zone) : Zone := ⟨z.state, z.sectors.length, z.sectors⟩
def durD (D : Dev) : Dev := ⟨D.size, D.maxOpen, D.maxActive, D.zones.map durZ⟩
def durPart (Z : List Zone) (j : Nat) : List Zone := (Z.take j).map durZ ++ Z.drop j
theorem durPart_zero (Z : List Zone) : durPart Z 0 = Z := by simp [durPart]
theorem durPart_all (Z : List Zone) {n : Nat} (h : Z.length = n) : durPart Z n = Z.map durZ := by
  subst h; simp [durPart]
theorem durPart_length (Z : List Zone) (j : Nat) : (durPart Z j).length = Z.length := by
  simp [durPart]; omega
theorem durPart_get {Z : List Zone} {j : Nat} {z : Zone} (h : Z[j]? = some z) : (durPart Z j)[j]? = some z := by
  have hj := (List.getElem?_eq_some_iff.1 h).1
  unfold durPart
  rw [List.getElem?_append_right (by simp; omega), List.length_map, List.length_take, Nat.min_eq_left (by omega), Nat.sub_self, List.getElem?_drop]
  simpa using h
theorem durPart_next {Z : List Zone} {j : Nat} {z : Zone} (h : Z[j]? = some z) : (durPart Z j).set j (durZ z) = durPart Z (j + 1) := by
  have hj := (List.getElem?_eq_some_iff.1 h).1
  apply List.ext_getElem?
  intro i
  by_cases hij : i = j
  · subst hij
    rw [List.getElem?_set_self (by rw [durPart_length]; exact hj)]
    unfold durPart
    rw [List.getElem?_append_left (by simp; omega), List.getElem?_map, List.getElem?_take, if_pos (by omega), h]
    rfl
  · rw [List.getElem?_set_ne (fun e => hij e.symm)]
    unfold durPart
    by_cases hlt : i < j
    · rw [List.getElem?_append_left (by simp; omega), List.getElem?_append_left (by simp; omega), List.getElem?_map, List.getElem?_map, List.getElem?_take, List.getElem?_take, if_pos hlt, if_pos (by omega)]
    · rw [List.getElem?_append_right (by simp; omega), List.getElem?_append_right (by simp; omega), List.length_map, List.length_map, List.length_take, List.length_take, List.getElem?_drop, List.getElem?_drop]
      congr 1
      omega
theorem dur_valid {D : Dev} (hc : checkE D = 0) : checkE (durD D) = 0 := by
  obtain ⟨h1, h2, h3, h4⟩ := check_parts hc
  have ho : ∀ Z : List Zone, countO (Z.map durZ) = countO Z ∧ countA (Z.map durZ) = countA Z := by
    intro Z
    induction Z with
    | nil => exact ⟨rfl, rfl⟩
    | cons z Z ih =>
      rw [List.map_cons, countO_cons, countA_cons, countO_cons, countA_cons, ih.1, ih.2]
      exact ⟨rfl, rfl⟩
  refine check_of ?_ ?_ ?_ ?_
  · rw [configB_eq] at h1 ⊢
    simpa [durD] using h1
  · unfold rightsB at h2 ⊢
    rw [List.all_eq_true] at h2 ⊢
    intro y hy
    obtain ⟨z, hz, rfl⟩ := List.mem_map.1 hy
    have hr := (right_iff _ _).1 (h2 z hz)
    rw [right_iff]
    refine ⟨?_, hr.2.1, ?_⟩
    · simp only [durZ, durD]
      omega
    · have h := hr.2.2
      simp only [durZ, durD]
      split
      · rename_i h0; rw [if_pos h0] at h; exact h
      · rename_i h0
        rw [if_neg h0] at h
        split
        · first | rfl | trivial
        · rename_i h4; rw [if_neg h4] at h; exact h
  · show (countO (D.zones.map durZ) : Int) ≤ D.maxOpen
    rw [(ho _).1]; exact h3
  · show (countA (D.zones.map durZ) : Int) ≤ D.maxActive
    rw [(ho _).2]; exact h4
theorem zones_empty1 (w : World) {H : Nat} (hH : w.heap.size = H) : (w.alloc (.cells #[] 48)).ownsRow H 48 3 (.slice (some ⟨H, 0, none⟩) 0 0) 0 [] := by
  subst hH
  exact World.ownsRow_made (base := w.heap.size) (e := 48) (size := 3) w #[] 0 (Nat.le_refl _) (by unfold maxLen; decide) rfl
theorem set_same {C : List Value} {i : Nat} {u : Value} (h : C[i]? = some u) : C.set i u = C := by
  obtain ⟨hi, e⟩ := List.getElem?_eq_some_iff.1 h
  subst e
  exact List.set_getElem_self hi
/-- one zone made durable among cells -/
theorem ZCells.dur {w : World} {F : Nat → Prop} {C : List Value} {Z : List Zone} (h : ZCells w F C Z) {j : Nat} {z : Zone} (hz : Z[j]? = some z) : ZCells w F (C.set (j * 3 + 1) (.int .i64 (z.sectors.length : Int))) (Z.set j (durZ z)) := by
  obtain ⟨c1, c2, sa, sl, sc, c3, hs⟩ := h.2 j z hz
  have hk := (List.getElem?_eq_some_iff.1 hz).1
  have := h.set j hk (durZ z) (sa := sa) (sl := sl) (sc := sc) hs
  rw [show (durZ z).state = z.state from rfl, show (durZ z).durable = (z.sectors.length : Int) from rfl, set_same c1] at this
  rw [set_same (u := .slice sa sl sc) (by rw [List.getElem?_set_ne (by omega)]; exact c3)] at this
  exact this
set_option maxHeartbeats 2000000 in
set_option maxRecDepth 20000 in
theorem cmd_durable (F : Nat → Prop) (D : Dev) (a : Option Addr) (n cap base g : Nat) (zs : List Int) (k : Nat) (w : World) (hF : ∀ b, F b → b < w.heap.size) (hFg : ¬ F g) (hz : ZonesIn w F a n cap D.zones) (hn1 : 1 ≤ n) (hn : n ≤ 1000) (hc : checkE D = 0) (hd : Dice w base g zs k) (hl : zs.length ≤ 100000) (hk : k < zs.length) (hcc : nxt zs (stp zs k) 9 = 4) :
    Calls Try.prog 42 #[.pointer (some ⟨g, 0, none⟩), devV D a n cap, .int .i64 (n : Int)] w (CmdPost w F base g zs k n) := by
  have hgl := dice_lt hd
  have hlen := hz.is.length
  obtain ⟨i, hi, hin⟩ : ∃ i : Nat, nxt zs k (n : Int) = (i : Int) ∧ i < n := by
    have := nxt_range zs k (n : Int) (by omega)
    exact ⟨(nxt zs k (n : Int)).toNat, by omega, by omega⟩
  have hnx1 : ∀ W, Dice W base g zs k → Calls Try.prog 40 #[.pointer (some ⟨g, 0, none⟩), .int .i64 (n : Int)] W (NextPost W base g zs k (n : Int)) := fun W h => next_any W base g zs k n h hl (by omega) (by omega)
  have hnx2 : ∀ W, Dice W base g zs (stp zs k) → Calls Try.prog 40 #[.pointer (some ⟨g, 0, none⟩), .int .i64 9] W (NextPost W base g zs (stp zs k) 9) := fun W h => next_any W base g zs _ 9 h hl (by decide) (by decide)
  have hA : Below w.heap.size w ((w.alloc (devRow D.size D.maxOpen D.maxActive a n cap)).alloc (devRow 0 0 0 none 0 0)) := ((Below.refl _ _).alloc (Nat.le_refl _) _).alloc (by simp) _
  have ZI := Lib.hid hi
  have N1 := Lib.hid hnx1
  have N2 := Lib.hid hnx2
  have HA := Lib.hid hA
  have HZ := Lib.hid hz
  have D0 := Lib.hid (dice_alloc (dice_alloc hd (devRow D.size D.maxOpen D.maxActive a n cap)) (devRow 0 0 0 none 0 0))
  have hk' : k < stp zs (stp zs k) ∧ stp zs (stp zs k) ≤ zs.length := by
    rw [stp_step hk]
    have := stp_ge zs (k + 1)
    have := stp_end (zs := zs) (k := k + 1) (by omega)
    omega
  have HKK := Lib.hid hk'
  obtain ⟨i1, hi1, hy0, hy1, hy2⟩ := info_parts zone_info6
  obtain ⟨x, rfl⟩ : ∃ x, a = some x := by
    rcases hz with ⟨_, rfl, _, _⟩ | ⟨x, rfl, _⟩
    · omega
    · exact ⟨x, rfl⟩
  have hdv := dur_valid hc
  obtain ⟨C, hC1, hC2, hC3⟩ := hz.cells
  have hC2' := fun W (h : Agree F w W) j u (hu : C[j]? = some u) => h.cell (w := w) (x := x.add j) (by rw [add_block]; rcases hz with ⟨h0, _⟩ | ⟨x', hx', _, _, _, _, hfx, _⟩; (· cases h0); (· obtain rfl := Option.some.inj hx'; exact hfx)) (hC2 j u hu)
  have HC := Lib.hid hcc
  have HC1 := Lib.hid hC1
  have HC2 := Lib.hid hC2'
  have HC3 := Lib.hid hC3
  have HDV := Lib.hid hdv
  clear hnx1 hnx2 hA hd hi hcc hk' hC1 hC2 hC2' hC3 hdv
  unfold CmdPost
  obtain ⟨size, op, act, Z⟩ := D
  try simp only at HC1 hlen
  go_enter Try.func42, Try.ntmps42
  go_wp2_with (first
    | (go_at_call 40; ((with_reducible refine (N1.out _ D0.out).mono ?_); rintro e w1 ⟨rfl, hd1, hg1, hs1⟩; rw [ZI.out]; have hx1 := row_grown hg1 (heap_first2 w _ _) (by omega); have hr1 := row_grown hg1 (heap_second w _ _) (by omega); have t1 : w1.heap.size = w.heap.size + 1 + 1 := hs1.trans (by simp only [World.size_alloc]); have hv1 : (w1.alloc (devRow size op act (some x) n cap)).heap[w.heap.size + 1 + 1]? = some (devRow size op act (some x) n cap) := (by rw [← t1]; exact heap_alloc_new w1 (devRow size op act (some x) n cap)); have hx1' := row_al hx1 (devRow size op act (some x) n cap); have hr1' := row_al hr1 (devRow size op act (some x) n cap); obtain ⟨y1, d0, d1, d2, d3⟩ := row4 hx1; have hz1 := ((HZ.out.on (Agree.below HA.out)).on (agree_grown hg1 hFg)).on (Agree.below ((Below.refl _ _).alloc (Nat.le_refl _) (devRow size op act (some x) n cap))); have G1 := grownBy_trans (grownBy_trans (below_grown HA.out g) hg1) (World.grownBy_alloc w1 (devRow size op act (some x) n cap) (some g))))
    | (go_at_call 40; ((with_reducible refine (N2.out _ (dice_alloc hd1 _)).mono ?_); rintro e w2 ⟨rfl, hd2, hg2, hs2⟩; rw [HC.out]; have hx2 := row_grown hg2 hx1' (by omega); have hr2 := row_grown hg2 hr1' (by omega); have hv2 := row_grown hg2 hv1 (by omega); obtain ⟨y2, d0, d1, d2, d3⟩ := row4 hx2; have hz2 := hz1.on (agree_grown hg2 hFg); have t2 : w2.heap.size = w1.heap.size + 1 := hs2.trans (World.size_alloc _ _); have G2 := grownBy_trans G1 hg2; have l0 := (row4 hv2).2.1; have l1 := (row4 hv2).2.2.1; have l2 := (row4 hv2).2.2.2.1; have l3 := (row4 hv2).2.2.2.2))
    | ((with_reducible refine Plan.store_lit 24 (.tmp 8) _ (w.heap.size + 1 + 1) ?_ hv2 ?_ ?_ ?_ ?_ ?_ ?_); rotate_left; (· rfl); (· rfl); (· exact dev_info); (· rfl); (· simp [Value.oneCell']); simp only [Act.put]; have hv3 := setRow_heap _ _ _ #[.int .i64 size, .int .i64 op, .int .i64 act, .slice (some x) n cap] _ _ hv2; have hx3 := (setRow_other _ (w.heap.size + 1 + 1) w.heap.size #[.int .i64 size, .int .i64 op, .int .i64 act, .slice (some x) n cap] (by omega)).trans hx2; have hr3 := (setRow_other _ (w.heap.size + 1 + 1) (w.heap.size + 1) #[.int .i64 size, .int .i64 op, .int .i64 act, .slice (some x) n cap] (by omega)).trans hr2; have hd3 := dice_far hd2 (grownBy_setRow w2 (w.heap.size + 1 + 1) #[.int .i64 size, .int .i64 op, .int .i64 act, .slice (some x) n cap]) (by omega); have G3 := grownBy_row G2 (x := (w.heap.size + 1 + 1)) (by omega) #[.int .i64 size, .int .i64 op, .int .i64 act, .slice (some x) n cap]; generalize w2.setRow (w.heap.size + 1 + 1) #[.int .i64 size, .int .i64 op, .int .i64 act, .slice (some x) n cap] = w3 at hv3 hx3 hr3 hd3 G3 ⊢; clear d0 d1 d2 d3 l0 l1 l2 l3; have n3 := lt_of_block hv3; obtain ⟨y3, d0, d1, d2, d3⟩ := row4 hx3; obtain ⟨v3, l0, l1, l2, l3⟩ := row4 hv3; have A3 := agree_grown G3 hFg)
    | (at_builtin; have E0 := zones_empty1 w3 rfl; refine wpList_append_lies _ rfl _ _ 22 rfl w3.heap.size 48 i1 _ 3 40 Try.underlying22 hi1 hy0 hy1 hy2 rfl (by decide) _ 0 [] (by rfl) E0 x n cap C rfl (by rw [HC1.out.1, hlen]) (HC2.out _ (agree_grown (grownBy_trans G3 (World.grownBy_alloc w3 _ _)) hFg)) HC3.out (by omega) (by unfold maxLen; omega) (by omega) (by simp) _ rfl ?_; intro g7 c7 w7 hown7 hgrow7 hat7 hlt7; have O7 := owns_copy hown7; have hgrow7 : (w3.alloc (.cells #[] 48)).grownBy w7 (some w3.heap.size) := hgrow7; have hx7 := (hgrow7.block _ (lt_of_block (row_al hx3 _)) (fun e => by have := Option.some.inj e; omega)).trans (row_al hx3 (.cells #[] 48)); have hr7 := (hgrow7.block _ (lt_of_block (row_al hr3 _)) (fun e => by have := Option.some.inj e; omega)).trans (row_al hr3 (.cells #[] 48)); have hv7 := (hgrow7.block _ (lt_of_block (row_al hv3 _)) (fun e => by have := Option.some.inj e; omega)).trans (row_al hv3 (.cells #[] 48)); have hd7 := dice_far (dice_alloc hd3 (.cells #[] 48)) hgrow7 (by omega); have B7 := (Below.refl w3.heap.size (w3.alloc (.cells #[] 48))).grown hgrow7 (by simp) (fun k hk => by have := Option.some.inj hk; omega); have G7 := grownBy_below (grownBy_trans G3 (World.grownBy_alloc w3 (.cells #[] 48) (some g))) B7 (by have := G3.size; omega); have hg7 := (O7.lt g7 rfl).1; obtain ⟨v7, l0, l1, l2, l3⟩ := row4 hv7; have f7 := row_free hv7 3; clear hown7 hgrow7))
  have HZ7 := Lib.hid (HC1.out.on (agree_grown G7 hFg))
  have hx8 := (Below.heap_setCell w7 ⟨w.heap.size + 1 + 1, 3, none⟩ (.slice (some ⟨g7, 0, none⟩) n c7) w.heap.size (by show w.heap.size ≠ w.heap.size + 1 + 1; omega)).trans hx7
  have hr8 := (Below.heap_setCell w7 ⟨w.heap.size + 1 + 1, 3, none⟩ (.slice (some ⟨g7, 0, none⟩) n c7) (w.heap.size + 1) (by show w.heap.size + 1 ≠ w.heap.size + 1 + 1; omega)).trans hr7
  have hv8 : (w7.setCell ⟨w.heap.size + 1 + 1, 3, none⟩ (.slice (some ⟨g7, 0, none⟩) n c7)).heap[w.heap.size + 1 + 1]? = some (devRow size op act (some ⟨g7, 0, none⟩) n c7) := setCell_row hv7 3 (.slice (some ⟨g7, 0, none⟩) n c7)
  have O8 := ownsRow_setCell_other O7 (a := ⟨w.heap.size + 1 + 1, 3, none⟩) (fun e => by have := Option.some.inj (show some g7 = some (w.heap.size + 1 + 1) from e); omega) (.slice (some ⟨g7, 0, none⟩) n c7)
  have hd8 := dice_far hd7 (grownBy_setCell w7 ⟨w.heap.size + 1 + 1, 3, none⟩ (.slice (some ⟨g7, 0, none⟩) n c7)) (show g < w.heap.size + 1 + 1 by omega)
  have G8 := grownBy_cell G7 (p := ⟨w.heap.size + 1 + 1, 3, none⟩) (show w.heap.size ≤ w.heap.size + 1 + 1 by omega) (.slice (some ⟨g7, 0, none⟩) n c7)
  have Z8 := HZ7.out.on (Agree.setCell (p := ⟨w.heap.size + 1 + 1, 3, none⟩) (fun h => by have : w.heap.size + 1 + 1 < w.heap.size := hF _ h; omega) (.slice (some ⟨g7, 0, none⟩) n c7))
  generalize w7.setCell ⟨w.heap.size + 1 + 1, 3, none⟩ (.slice (some ⟨g7, 0, none⟩) n c7) = w8 at hx8 hr8 hv8 O8 hd8 G8 Z8 ⊢
  clear l0 l1 l2 l3 d0 d1 d2 d3 f7
  go_loopw [10] (fun c wr => ∃ (j : Nat) (C' : List Value), c = .int .i64 j ∧ j ≤ n ∧ wr.ownsRow w3.heap.size 48 3 (.slice (some ⟨g7, 0, none⟩) n c7) n C' ∧ ZCells wr F C' (durPart Z j) ∧ wr.heap[w.heap.size]? = some (devRow size op act (some x) n cap) ∧ wr.heap[w.heap.size + 1]? = some (devRow 0 0 0 none 0 0) ∧ wr.heap[w.heap.size + 1 + 1]? = some (devRow size op act (some ⟨g7, 0, none⟩) n c7) ∧ Dice wr base g zs (stp zs (stp zs k)) ∧ w.grownBy wr (some g)) (fun c _ => n - (intOf c).toNat)
  case atStart => exact ⟨0, C, rfl, by omega, O8, by rw [durPart_zero]; exact Z8, hx8, hr8, hv8, hd8, G8⟩
  case round =>
    obtain ⟨j, C', rfl, hj, hown, hzc, hx, hr, hv, hdd, hG⟩ := hrel
    obtain ⟨yv, l0, l1, l2, l3⟩ := row4 hv
    by_cases hlt : j < n
    · obtain ⟨z, hz⟩ := zone_of (D := ⟨size, op, act, Z⟩) (k := j) (by show j < Z.length; omega)
      have hzp := durPart_get (show Z[j]? = some z from hz)
      obtain ⟨c1, c2, sa, sl, sc, c3, hss⟩ := hzc.2 j z hzp
      have hsl := hss.1.length
      have hnx := ZCells.dur hzc hzp
      rw [durPart_next (show Z[j]? = some z from hz), hsl] at hnx
      have hjI : (j : Int) < (n : Int) := by omega
      have e1 := hown.cells (g := g7) rfl _ _ c2
      have e2 := hown.cells (g := g7) rfl _ _ c3
      rw [add_lit0] at e1 e2
      have f1 := owns_free5 hown (j * 3 + 1)
      go_wp2_with fail
      refine Plan.start (fun W => W.cell? ⟨w.heap.size + 1 + 1, 3, none⟩ = some (.slice (some ⟨g7, 0, none⟩) n c7) ∧ W.cell? ⟨g7, j * 3 + 2, none⟩ = some (.slice sa sl sc)) [(0, true), (1, true), (2, true), (3, true), (4, true), (5, true), (6, true), (7, true), (8, true), (9, true), (10, true), (11, true), (12, false)] (by kernel_rfl) (by kernel_rfl) (by kernel_rfl) (by kernel_rfl) ⟨l3, e2⟩ ?_
      simp only [List.map_cons, List.map_nil, List.getElem?_toArray, List.getElem?_cons_zero, List.getElem?_cons_succ]
      repeat (first | (refine Plan.take ?_ (by rfl) ?_ ?_; rotate_left; (· rintro w9 ⟨u0, u1⟩; go_simp; (try rw [if_neg (by omega)]); all_goals (with_reducible rfl)); simp only [Act.put, List.setIfInBounds_toArray, List.set_cons_zero, List.set_cons_succ]) | (refine Plan.pass (by rfl) ?_; simp only [Act.put, List.setIfInBounds_toArray, List.set_cons_zero, List.set_cons_succ]))
      have O9 := owns_cell hown (j * 3 + 1) (.int .i64 (sl : Int))
      have hx9 := (Below.heap_setCell wr.drew ⟨g7, j * 3 + 1, none⟩ (.int .i64 (sl : Int)) w.heap.size (by show w.heap.size ≠ g7; omega)).trans hx
      have hr9 := (Below.heap_setCell wr.drew ⟨g7, j * 3 + 1, none⟩ (.int .i64 (sl : Int)) (w.heap.size + 1) (by show w.heap.size + 1 ≠ g7; omega)).trans hr
      have hv9 := (Below.heap_setCell wr.drew ⟨g7, j * 3 + 1, none⟩ (.int .i64 (sl : Int)) (w.heap.size + 1 + 1) (by show w.heap.size + 1 + 1 ≠ g7; omega)).trans hv
      have hd9 := dice_far (dice_drew hdd) (grownBy_setCell wr.drew ⟨g7, j * 3 + 1, none⟩ (.int .i64 (sl : Int))) (show g < g7 by omega)
      have G9 := grownBy_cell (grownBy_trans hG (grownBy_drew wr (some g))) (p := ⟨g7, j * 3 + 1, none⟩) (show w.heap.size ≤ g7 by omega) (.int .i64 (sl : Int))
      have Z9 := (hnx.on (Agree.below (Below.refl wr.heap.size wr).drew)).on (Agree.setCell (p := ⟨g7, j * 3 + 1, none⟩) (fun h => by have : g7 < w.heap.size := hF _ h; omega) (.int .i64 (sl : Int)))
      have e3 : (wr.drew.setCell ⟨g7, j * 3 + 1, none⟩ (.int .i64 (sl : Int))).cell? ⟨g7, j * 3 + 2, none⟩ = some (.slice sa sl sc) := by
        have := O9.cells (g := g7) rfl (j * 3 + 2) (.slice sa sl sc) (by rw [List.getElem?_set_ne (by omega)]; exact c3)
        rw [add_lit0] at this
        exact this
      refine Plan.carry (by rfl) (wp_store_int 3 _ _ rfl g7 (j * 3 + 1) .i64 (sl : Int) (by rfl) (by rfl) ⟨_, e1⟩ f1 int_info1 ⟨⟨(row4 hv9).2.2.2.2, e3⟩, ?_⟩)
      simp only [Act.put]
      refine Plan.ends ?_
      go_wp2_with fail
      go_roundw
      case rel => exact ⟨j + 1, _, by go_num, by omega, O9, Z9, hx9, hr9, hv9, hd9, G9⟩
      case measure => simp [intOf]; omega
    · obtain rfl : j = n := by omega
      rw [durPart_all Z hlen] at hzc
      go_wp2_with (first
        | ((with_reducible refine Plan.store_lit 24 (.tmp 6) _ (w.heap.size + 1) ?_ hr ?_ ?_ ?_ ?_ ?_ ?_); rotate_left; (· rfl); (· rfl); (· exact dev_info); (· rfl); (· simp [Value.oneCell']); simp only [Act.put]))
      have b9 := below_setRow (Below.refl w.heap.size wr) (show w.heap.size ≤ w.heap.size + 1 by omega) #[.int .i64 size, .int .i64 op, .int .i64 act, .slice (some ⟨g7, 0, none⟩) j c7]
      have Z9 := hzc.on (Agree.row (r := w.heap.size + 1) (fun h => by have := hF _ h; omega) #[.int .i64 size, .int .i64 op, .int .i64 act, .slice (some ⟨g7, 0, none⟩) j c7])
      have O9 := owns_other (H := w.heap.size + 1) (cs := #[.int .i64 size, .int .i64 op, .int .i64 act, .slice (some ⟨g7, 0, none⟩) j c7]) hown (by omega)
      obtain ⟨-, a', cap', heq, hzz⟩ := owns_zones (F := Plus F w.heap.size) O9 (Z9.mono (fun _ _ h => .inl h)) (fun b e => .inr (by have := Option.some.inj (show some g7 = some b from e); omega))
      cases heq
      exact bodyPost_ret (results_cell_row rfl _ _ _ _ _ _ _ rfl (setRow_heap _ _ _ _ _ _ hr) Try.underlying24 rfl dev_info) rfl ⟨durD ⟨size, op, act, Z⟩, _, _, _, rfl, hzz, HDV.out, HKK.out.1, HKK.out.2, dice_far hdd (grownBy_setRow wr _ _) (by omega), grownBy_row hG (by omega) _⟩
theorem command_any (F : Nat → Prop) (D : Dev) (a : Option Addr) (n cap base g : Nat) (zs : List Int) (k : Nat) (w : World) (hF : ∀ b, F b → b < w.heap.size) (hFg : ¬ F g) (hz : ZonesIn w F a n cap D.zones) (hn1 : 1 ≤ n) (hn : n ≤ 1000) (hc : checkE D = 0) (hd : Dice w base g zs k) (hl : zs.length ≤ 100000) (hk : k < zs.length) :
    Calls Try.prog 42 #[.pointer (some ⟨g, 0, none⟩), devV D a n cap, .int .i64 (n : Int)] w (CmdPost w F base g zs k n) := by
  have hr := nxt_range zs (stp zs k) 9 (by decide)
  obtain ⟨i, hi⟩ : ∃ i : Nat, nxt zs k (n : Int) = (i : Int) := by
    have := nxt_range zs k (n : Int) (by omega)
    exact ⟨(nxt zs k (n : Int)).toNat, by omega⟩
  have hone : ∀ i' : Nat, nxt zs k (n : Int) = (i' : Int) → i' = i := fun i' h => by omega
  rcases (by omega : nxt zs (stp zs k) 9 = 0 ∨ nxt zs (stp zs k) 9 = 1 ∨ nxt zs (stp zs k) 9 = 2 ∨ nxt zs (stp zs k) 9 = 3 ∨ nxt zs (stp zs k) 9 = 4 ∨ 5 ≤ nxt zs (stp zs k) 9) with h | h | h | h | h | h
  · by_cases hE : beginE D (i : Int) = 0
    · exact cmd_reset F D a n cap base g zs k w hF hFg hz hn1 hn hc hd hl hk h (fun i' e => by rw [hone i' e]; exact hE)
    · exact cmd_reset_err F D a n cap base g zs k w hF hFg hz hn1 hn hc hd hl hk h (fun i' e => by rw [hone i' e]; exact hE)
  · by_cases hE : beginE D (i : Int) = 0
    · exact cmd_finish F D a n cap base g zs k w hF hFg hz hn1 hn hc hd hl hk h (fun i' e => by rw [hone i' e]; exact hE)
    · exact cmd_finish_err F D a n cap base g zs k w hF hFg hz hn1 hn hc hd hl hk h (fun i' e => by rw [hone i' e]; exact hE)
  · by_cases hE : openE D (i : Int) = 0
    · exact cmd_open F D a n cap base g zs k w hF hFg hz hn1 hn hc hd hl hk h (fun i' e => by rw [hone i' e]; exact hE)
    · exact cmd_open_err F D a n cap base g zs k w hF hFg hz hn1 hn hc hd hl hk h (fun i' e => by rw [hone i' e]; exact hE)
  · by_cases hE : closeE D (i : Int) = 0
    · exact cmd_close F D a n cap base g zs k w hF hFg hz hn1 hn hc hd hl hk h (fun i' e => by rw [hone i' e]; exact hE)
    · exact cmd_close_err F D a n cap base g zs k w hF hFg hz hn1 hn hc hd hl hk h (fun i' e => by rw [hone i' e]; exact hE)
  · exact cmd_durable F D a n cap base g zs k w hF hFg hz hn1 hn hc hd hl hk h
  · by_cases hE : appendE D (i : Int) ⟨(RecMath.encL (mk (madeK zs (stp zs (stp zs (stp zs k)))) (nxt zs (stp zs (stp zs (stp zs k))) 5) (1 + nxt zs (stp zs (stp zs k)) 40) 0 (madeP zs (stp zs (stp zs (stp zs k)))))).toArray⟩ = 0
    · exact cmd_append F D a n cap base g zs k w hF hFg hz hn1 hn hc hd hl hk h (fun i' s e es => by rw [hone i' e, es]; exact hE)
    · exact cmd_append_err F D a n cap base g zs k w hF hFg hz hn1 hn hc hd hl hk h (fun i' s e es => by rw [hone i' e, es]; exact hE)
end Go.Proofs.Ytlmlmgegnnikeaa

/- A region that leaves its order open, walked by a plan in which two operations may come up at one time. Every law holds for any program. -/
namespace Go.Proofs.Ytlmlmgegnnikeaa.Tree
open Go.RowKit

/-- A plan: one that may be taken first, one that alone may come up, and two of which either may. -/
inductive T (α : Type) where
  | done
  | take (k : α) (r : T α)
  | only (k : α) (r : T α)
  | fork (k : α) (r : T α) (l : α) (s : T α)
def T.map {α β : Type} (f : α → β) : T α → T β
  | .done => .done
  | .take k r => .take (f k) (r.map f)
  | .only k r => .only (f k) (r.map f)
  | .fork k r l s => .fork (f k) (r.map f) (f l) (s.map f)
def T.size {α : Type} : T α → Nat
  | .done => 0
  | .take _ r => r.size + 1
  | .only _ r => r.size + 1
  | .fork _ r _ _ => r.size + 1
def good (md : Region.Mode) (ops : Array Oper) : T Nat → Array Bool → Bool
  | .done, listed => (Region.ready md ops listed).isEmpty
  | .take k r, listed => (Region.ready md ops listed).contains k && Region.free md ops listed k && good md ops r (listed.setIfInBounds k true)
  | .only k r, listed => (Region.ready md ops listed == [k]) && good md ops r (listed.setIfInBounds k true)
  | .fork k r l s, listed => (Region.ready md ops listed == [k, l]) && (r.size == s.size) && good md ops r (listed.setIfInBounds k true) && good md ops s (listed.setIfInBounds l true)
def goes (P : Program) (ops : Array Oper) (Q : Exit → Act → World → Prop) (S : World → Prop) : T (Option Oper) → Act → World → Prop
  | .done, a, w => Q .normal a w
  | .take none _, _, _ => False
  | .take (some o) r, a, w => ∃ v, YieldsIf P ops S o v a ∧ goes P ops Q S r (a.put o.dst v) w
  | .only none _, _, _ => False
  | .only (some o) r, a, w => ∃ R : Act → World → Prop, (∀ a' w', R a' w' → S w' ∧ goes P ops Q S r a' w') ∧ (if Region.wanted o (yielded ops a.tmps) then o.wp P a w R Q else R (a.put o.dst undef) w)
  | .fork none _ _ _, _, _ => False
  | .fork _ _ none _, _, _ => False
  | .fork (some o) r (some p) s, a, w => (∃ R : Act → World → Prop, (∀ a' w', R a' w' → S w' ∧ goes P ops Q S r a' w') ∧ (if Region.wanted o (yielded ops a.tmps) then o.wp P a w R Q else R (a.put o.dst undef) w)) ∧
      (∃ R : Act → World → Prop, (∀ a' w', R a' w' → S w' ∧ goes P ops Q S s a' w') ∧ (if Region.wanted p (yielded ops a.tmps) then p.wp P a w R Q else R (a.put p.dst undef) w))
section
variable {P : Program} {ops : Array Oper} {Q : Exit → Act → World → Prop} {S : World → Prop}
theorem one {i : Nat} {o : Oper} {a : Act} {w : World} {n : Nat} {listed : Array Bool} {G : Act → World → Prop} (ho : ops[i]? = some o)
    (h : ∃ R : Act → World → Prop, (∀ a' w', R a' w' → S w' ∧ G a' w') ∧ (if Region.wanted o (yielded ops a.tmps) then o.wp P a w R Q else R (a.put o.dst undef) w))
    (hG : ∀ a' w', S w' → G a' w' → wpAnyH P .any ops Q S n (listed.setIfInBounds i true) a' w') :
    wpOp P ops Q i (fun a' w' => S w' ∧ wpAnyH P .any ops Q S n (listed.setIfInBounds i true) a' w') a w := by
  obtain ⟨R, hR, hr⟩ := h
  have hw : wpOp P ops Q i R a w := by
    unfold wpOp
    simp only [ho]
    split
    · rename_i hw
      rw [if_pos hw] at hr
      exact .inl hr
    · rename_i hw
      rw [if_neg hw] at hr
      exact hr
  exact wpOp_mono (fun a' w' h' => ⟨(hR a' w' h').1, hG a' w' (hR a' w' h').1 (hR a' w' h').2⟩) hw
theorem held_of_goes (hs : Region.noSelect ops = true) (hQ : ∀ c a d v w, Q (.panic c) (Act.put a d v) w → Q (.panic c) a w) :
    ∀ (plan : T Nat) (listed : Array Bool) (a : Act) (w : World), good .any ops plan listed = true → S w →
      goes P ops Q S (plan.map fun p => ops[p]?) a w → wpAnyH P .any ops Q S plan.size listed a w
  | .done, listed, a, w, hB, _, h => by
    refine wpAnyH_done ?_ h 0
    simpa [good] using hB
  | .take k r, listed, a, w, hB, hS, h => by
    simp only [good, Bool.and_eq_true] at hB
    simp only [T.map] at h
    cases ho : ops[k]? with
    | none => rw [ho] at h; exact h.elim
    | some o =>
      rw [ho] at h
      obtain ⟨v, hy, hr⟩ := h
      exact wpAnyH_take ho hs hB.1.2 hB.1.1 (fun c a w => hQ c a o.dst v w) hy hS (held_of_goes hs hQ r _ _ _ hB.2 hS hr)
  | .only k r, listed, a, w, hB, hS, h => by
    simp only [good, Bool.and_eq_true, beq_iff_eq] at hB
    simp only [T.map] at h
    refine wpAnyH_all hB.1 (by simp) fun i hi => ?_
    have hik : i = k := by simpa using hi
    subst hik
    cases ho : ops[i]? with
    | none => rw [ho] at h; exact h.elim
    | some o =>
      rw [ho] at h
      exact one ho h fun a' w' hS' hg => held_of_goes hs hQ r _ _ _ hB.2 hS' hg
  | .fork k r l s, listed, a, w, hB, hS, h => by
    simp only [good, Bool.and_eq_true, beq_iff_eq] at hB
    simp only [T.map] at h
    refine wpAnyH_all hB.1.1.1 (by simp) fun i hi => ?_
    cases ho : ops[k]? with
    | none => rw [ho] at h; exact h.elim
    | some o =>
      cases hp : ops[l]? with
      | none => rw [ho, hp] at h; exact h.elim
      | some p =>
        rw [ho, hp] at h
        have hik : i = k ∨ i = l := by simpa using hi
        rcases hik with rfl | rfl
        · exact one ho h.1 fun a' w' hS' hg => held_of_goes hs hQ r _ _ _ hB.1.2 hS' hg
        · have := one (n := s.size) (listed := listed) hp h.2 fun a' w' hS' hg => held_of_goes hs hQ s _ _ _ hB.2 hS' hg
          rw [← hB.1.1.2] at this
          exact this
/-- THE BEGINNING: S is what the region keeps to. -/
theorem start {id : Nat} {a : Act} {w : World} (S : World → Prop) (plan : T Nat) (hm : P.follows .mixedOrders = true) (hs : Region.noSelect ops = true) (hl : plan.size = ops.size)
    (hB : good .any ops plan (Array.replicate ops.size false) = true) (hS : S w.drew)
    (h : goes P ops (NoPanic Q) S (plan.map fun p => ops[p]?) a w.drew) : (Code.region id ops true).wp P Q a w :=
  wp_region_noPanic (wp_region_held hm (by
    have := held_of_goes (P := P) (Q := NoPanic Q) (S := S) hs (fun _ _ _ _ _ h => h) plan (Array.replicate ops.size false) a w.drew hB hS h
    rw [hl] at this
    exact this))
/-- THE END. -/
theorem ends {Q : Exit → Act → World → Prop} {a : Act} {w : World} (h : Q .normal a w) : goes P ops (NoPanic Q) S .done a w := h
theorem take {o : Oper} {r : T (Option Oper)} {a : Act} {w : World} (v : Value) (hw : Region.wanted o (yielded ops a.tmps) = true) (hv : ∀ w, S w → (execOp a.eval o).run P w = .ok (.value v) w)
    (h : goes P ops Q S r (a.put o.dst v) w) : goes P ops Q S (.take (some o) r) a w := ⟨v, .inl ⟨hw, hv⟩, h⟩
theorem carryR {o : Oper} {r : T (Option Oper)} {a : Act} {w : World} (hw : Region.wanted o (yielded ops a.tmps) = true)
    (h : o.wp P a w (fun a' w' => S w' ∧ goes P ops Q S r a' w') Q) : ∃ R : Act → World → Prop, (∀ a' w', R a' w' → S w' ∧ goes P ops Q S r a' w') ∧ (if Region.wanted o (yielded ops a.tmps) then o.wp P a w R Q else R (a.put o.dst undef) w) :=
  ⟨fun a' w' => S w' ∧ goes P ops Q S r a' w', fun _ _ h => h, by rw [if_pos hw]; exact h⟩
theorem only {o : Oper} {r : T (Option Oper)} {a : Act} {w : World} (hw : Region.wanted o (yielded ops a.tmps) = true)
    (h : o.wp P a w (fun a' w' => S w' ∧ goes P ops Q S r a' w') Q) : goes P ops Q S (.only (some o) r) a w := carryR hw h
theorem fork {o p : Oper} {r s : T (Option Oper)} {a : Act} {w : World} (hw : Region.wanted o (yielded ops a.tmps) = true) (hv : Region.wanted p (yielded ops a.tmps) = true)
    (h : o.wp P a w (fun a' w' => S w' ∧ goes P ops Q S r a' w') Q) (k : p.wp P a w (fun a' w' => S w' ∧ goes P ops Q S s a' w') Q) : goes P ops Q S (.fork (some o) r (some p) s) a w := ⟨carryR hw h, carryR hv k⟩
/-- A call of a Go function, by its contract. -/
theorem wp_call {o : Oper} {a : Act} {w : World} {K : Act → World → Prop} (f : FuncId) (vs : Array Value) {R : Ending → World → Prop}
    (ho : (execOp a.eval o).run P w = .ok (.enter f vs) w) (hc : Calls P f vs w R)
    (h : ∀ e w', R e w' → ∃ v, e = .returned v ∧ K (a.put o.dst v) w') : o.wp P a w K Q := by
  unfold Oper.wp
  rw [ho]
  simp only [Oper.upon]
  refine hc.mono fun e w' he => ?_
  obtain ⟨v, rfl, hg⟩ := h e w' he
  exact hg
/-- One that makes memory. -/
theorem wp_make {o : Oper} {a : Act} {w : World} {K : Act → World → Prop} (v : Value) (w1 : World)
    (ho : (execOp a.eval o).run P w = .ok (.value v) w1) (h : K (a.put o.dst v) w1) : o.wp P a w K Q := by
  unfold Oper.wp
  rw [ho]
  exact h
end
end Go.Proofs.Ytlmlmgegnnikeaa.Tree

/- The walk of the maker's Odd. -/
namespace Go.Proofs.Ytlmlmgegnnikeaa
open Go.RowKit Plan ZnsMath

/-- a device, whatever -/
def AnyDev (w : World) (e : Ending) (w' : World) : Prop :=
  ∃ (D : Dev) (a : Option Addr) (n cap : Nat), e = .returned (devV D a n cap) ∧ IsZones w' a n cap D.zones ∧ Below w.heap.size w w'
theorem run_store_slice (w : World) (ty : TypeId) (b o : Nat) (sa : Option Addr) (sl sc : Nat) (hc : ∃ u, w.cell? ⟨b, o, none⟩ = some u) (hf : w.frozen? ⟨b, o, none⟩ = false) (hi : (Try.prog.info? ty).map (·.size) = some 1) :
    (storeVar ty ⟨b, o, none⟩ (.slice sa sl sc)).run Try.prog w = .ok () (w.setCell ⟨b, o, none⟩ (.slice sa sl sc)) := by
  obtain ⟨u, hu⟩ := hc
  cases hq : Try.prog.info? ty with
  | none => simp [hq] at hi
  | some i =>
    have hs : i.size = 1 := by simpa [hq] using hi
    have hst := run_store Try.prog w ⟨b, o, none⟩ (.slice sa sl sc) .plain rfl
    rw [hu, hf] at hst
    simp only [Bool.false_eq_true, if_false] at hst
    have ha : (⟨b, o, none⟩ : Addr).add 0 = ⟨b, o, none⟩ := by rw [Addr.add_lit, Nat.add_zero]
    simp [storeVar, sizeOf, typeInfo, hq, Value.cells, hs, storeCells, ha, hst]
theorem wp_store_slice {op : Oper} {a : Act} {w : World} {K : Act → World → Prop} {Q : Exit → Act → World → Prop} (ty : TypeId) (x y : Operand) (ho : op.op = .store ty x y)
    (b o : Nat) (sa : Option Addr) (sl sc : Nat) (hx : a.eval x = .pointer (some ⟨b, o, none⟩)) (hy : a.eval y = .slice sa sl sc) (hc : ∃ u, w.cell? ⟨b, o, none⟩ = some u) (hf : w.frozen? ⟨b, o, none⟩ = false) (hi : (Try.prog.info? ty).map (·.size) = some 1)
    (h : K (a.put op.dst undef) (w.setCell ⟨b, o, none⟩ (.slice sa sl sc))) : op.wp Try.prog a w K Q := by
  unfold Oper.wp execOp
  simp only [ho, hx, hy, Instr.storeAt, Instr.sureAddr, Sem.run_bind, Sem.run_pure, Result.andThen_ok, run_store_slice w ty b o sa sl sc hc hf hi]
  exact h
theorem store_int_lit {ops : Array Oper} {rest : List Oper} {a : Act} {w : World} {Q : Exit → Act → World → Prop} (ty : TypeId) (x y : Operand) {t' : TypeId} {pos : String} {after : Array Edge}
    (b o : Nat) (k : IntKind) (n : Int) (hx : a.eval x = .pointer (some ⟨b, o, none⟩)) (hy : a.eval y = .int k n) (hc : ∃ u, w.cell? ⟨b, o, none⟩ = some u) (hf : w.frozen? ⟨b, o, none⟩ = false) (hi : (Try.prog.info? ty).map (·.size) = some 1)
    (h : wpList Try.prog ops Q rest (a.put none undef) (w.setCell ⟨b, o, none⟩ (.int k n))) : wpList Try.prog ops Q (⟨none, .store ty x y, t', pos, after, none⟩ :: rest) a w :=
  wpList_plain rfl fun _ hK => wp_store_int ty x y rfl b o k n hx hy hc hf hi (hK _ _ h)
theorem store_slice_lit {ops : Array Oper} {rest : List Oper} {a : Act} {w : World} {Q : Exit → Act → World → Prop} (ty : TypeId) (x y : Operand) {t' : TypeId} {pos : String} {after : Array Edge}
    (b o : Nat) (sa : Option Addr) (sl sc : Nat) (hx : a.eval x = .pointer (some ⟨b, o, none⟩)) (hy : a.eval y = .slice sa sl sc) (hc : ∃ u, w.cell? ⟨b, o, none⟩ = some u) (hf : w.frozen? ⟨b, o, none⟩ = false) (hi : (Try.prog.info? ty).map (·.size) = some 1)
    (h : wpList Try.prog ops Q rest (a.put none undef) (w.setCell ⟨b, o, none⟩ (.slice sa sl sc))) : wpList Try.prog ops Q (⟨none, .store ty x y, t', pos, after, none⟩ :: rest) a w :=
  wpList_plain rfl fun _ hK => wp_store_slice ty x y rfl b o sa sl sc hx hy hc hf hi (hK _ _ h)
theorem zone_slice_info1 : (Try.prog.info? 22).map (·.size) = some 1 := by kernel_rfl
theorem str_slice_info1 : (Try.prog.info? 46).map (·.size) = some 1 := by kernel_rfl
theorem odd_end {w wE : World} {F : Nat → Prop} {B g n c r : Nat} {C : List Value} {Z : List Zone} (O : wE.ownsRow B 48 3 (.slice (some ⟨g, 0, none⟩) n c) n C) (hz : ZCells wE F C Z) (hF : ¬ F r) (hg : g ≠ r) (hr : w.heap.size ≤ r) (b : Below w.heap.size w wE) (cs : Array Value) :
    IsZones (wE.setRow r cs) (some ⟨g, 0, none⟩) n c Z ∧ Below w.heap.size w (wE.setRow r cs) := by
  refine ⟨?_, below_setRow b hr cs⟩
  obtain ⟨-, a', cap', heq, h⟩ := owns_zones (F := fun _ => True) (owns_other (H := r) (cs := cs) O hg) ((hz.on (Agree.row hF cs)).mono (fun _ _ _ => trivial)) (fun _ _ => trivial)
  cases heq
  exact h.is
theorem odd_cells {w : World} {F : Nat → Prop} {B g n c j : Nat} {C : List Value} {Z : List Zone} {z : Zone} (O : w.ownsRow B 48 3 (.slice (some ⟨g, 0, none⟩) n c) n C) (hz : ZCells w F C Z) (hj : Z[j]? = some z) :
    w.cell? ⟨g, j * 3, none⟩ = some (.int .i64 z.state) ∧ w.cell? ⟨g, j * 3 + 1, none⟩ = some (.int .i64 z.durable) ∧ (∃ sa sl sc, w.cell? ⟨g, j * 3 + 2, none⟩ = some (.slice sa sl sc) ∧ StrsIn w F sa sl sc z.sectors) ∧
    w.frozen? ⟨g, j * 3, none⟩ = false ∧ w.frozen? ⟨g, j * 3 + 1, none⟩ = false ∧ w.frozen? ⟨g, j * 3 + 2, none⟩ = false := by
  obtain ⟨c1, c2, sa, sl, sc, c3, hs⟩ := hz.2 j z hj
  have e0 := O.cells (g := g) rfl _ _ c1
  have e1 := O.cells (g := g) rfl _ _ c2
  have e2 := O.cells (g := g) rfl _ _ c3
  rw [add_lit0] at e0 e1 e2
  exact ⟨e0, e1, ⟨sa, sl, sc, e2, hs⟩, owns_free5 O _, owns_free5 O _, owns_free5 O _⟩
theorem zowns_on {w w' : World} {B sz n : Nat} {t : TypeId} {v : Value} {xs : List Value} (h : w.ownsRow B t sz v n xs) (hb : Below w.heap.size w w') : w'.ownsRow B t sz v n xs := by
  refine h.kept (row := none) ⟨hb.os, hb.tape, hb.output, hb.size, fun i hi _ => hb.block i hi⟩ ?_
  cases v.ownBlock <;> simp
theorem set_at {Z : List Zone} {j : Nat} {z y : Zone} (h : Z[j]? = some z) : (Z.set j y)[j]? = some y := List.getElem?_set_self (List.getElem?_eq_some_iff.1 h).1
theorem ZCells.st {w : World} {F : Nat → Prop} {C : List Value} {Z : List Zone} (h : ZCells w F C Z) {j : Nat} {z : Zone} (hz : Z[j]? = some z) (v : Int) : ZCells w F (C.set (j * 3) (.int .i64 v)) (Z.set j ⟨v, z.durable, z.sectors⟩) := by
  obtain ⟨c1, c2, sa, sl, sc, c3, hs⟩ := h.2 j z hz
  have := h.set j (List.getElem?_eq_some_iff.1 hz).1 ⟨v, z.durable, z.sectors⟩ (sa := sa) (sl := sl) (sc := sc) hs
  rw [set_same (i := j * 3 + 1) (u := .int .i64 z.durable) (by rw [List.getElem?_set_ne (by omega)]; exact c2)] at this
  rw [set_same (u := .slice sa sl sc) (by rw [List.getElem?_set_ne (by omega)]; exact c3)] at this
  exact this
theorem ZCells.du {w : World} {F : Nat → Prop} {C : List Value} {Z : List Zone} (h : ZCells w F C Z) {j : Nat} {z : Zone} (hz : Z[j]? = some z) (v : Int) : ZCells w F (C.set (j * 3 + 1) (.int .i64 v)) (Z.set j ⟨z.state, v, z.sectors⟩) := by
  obtain ⟨c1, c2, sa, sl, sc, c3, hs⟩ := h.2 j z hz
  have := h.set j (List.getElem?_eq_some_iff.1 hz).1 ⟨z.state, v, z.sectors⟩ (sa := sa) (sl := sl) (sc := sc) hs
  rw [set_same (i := j * 3) (u := .int .i64 z.state) c1] at this
  rw [set_same (u := .slice sa sl sc) (by rw [List.getElem?_set_ne (by omega)]; exact c3)] at this
  exact this
theorem ZCells.se {w : World} {F : Nat → Prop} {C : List Value} {Z : List Zone} (h : ZCells w F C Z) {j : Nat} {z : Zone} (hz : Z[j]? = some z) {sa : Option Addr} {sl sc : Nat} {L : List ByteArray} (hs : StrsIn w F sa sl sc L) : ZCells w F (C.set (j * 3 + 2) (.slice sa sl sc)) (Z.set j ⟨z.state, z.durable, L⟩) := by
  obtain ⟨c1, c2, _, _, _, c3, _⟩ := h.2 j z hz
  have := h.set j (List.getElem?_eq_some_iff.1 hz).1 ⟨z.state, z.durable, L⟩ (sa := sa) (sl := sl) (sc := sc) hs
  rw [set_same (i := j * 3) (u := .int .i64 z.state) c1, set_same (i := j * 3 + 1) (u := .int .i64 z.durable) c2] at this
  exact this
set_option maxHeartbeats 2000000 in
set_option maxRecDepth 20000 in
theorem odd_any (D : Dev) (a : Option Addr) (n cap : Nat) (p1 p2 p3 : Int) (w : World) (hz0 : IsZones w a n cap D.zones) (hc : checkE D = 0) (hn1 : 1 ≤ n) (hn : n ≤ 1000) :
    Calls Try.prog 19 #[devV D a n cap, .int .i64 p1, .int .i64 p2, .int .i64 p3] w (AnyDev w) := by
  obtain ⟨i1, hi1, hy0, hy1, hy2⟩ := info_parts zone_info6
  have hz := ZonesIn.of hz0
  obtain ⟨x, rfl⟩ : ∃ x, a = some x := by
    rcases hz with ⟨_, rfl, _, _⟩ | ⟨x, rfl, _⟩
    · omega
    · exact ⟨x, rfl⟩
  have hlen := hz.is.length
  have hA : Below w.heap.size w ((w.alloc (devRow D.size D.maxOpen D.maxActive (some x) n cap)).alloc (devRow 0 0 0 none 0 0)) := ((Below.refl _ _).alloc (Nat.le_refl _) _).alloc (by simp) _
  obtain ⟨C, hC1, hC2', hC3⟩ := hz.cells
  have hC2 := fun W (hb : Below w.heap.size w W) j u (hu : C[j]? = some u) => (hb.cell (block_lt_of_cell (hC2' j u hu))).trans (hC2' j u hu)
  obtain ⟨j, hj, hjn⟩ : ∃ j : Nat, p2 % (n : Int) = (j : Int) ∧ j < n := by
    have h1 := Int.emod_nonneg p2 (show (n : Int) ≠ 0 by omega)
    have h2 := Int.emod_lt_of_pos p2 (show (0 : Int) < n by omega)
    exact ⟨(p2 % (n : Int)).toNat, by omega, by omega⟩
  have hj2 := fun W => mod_any p2 (n : Int) (by omega) (by omega) W
  rw [hj] at hj2
  have hk2 := fun W => mod_any p1 9 (by decide) (by decide) W
  have hkr : 0 ≤ p1 % 9 ∧ p1 % 9 < 9 := ⟨Int.emod_nonneg _ (by decide), Int.emod_lt_of_pos _ (by decide)⟩
  generalize p1 % 9 = kd at hk2 hkr
  have hm8 := fun W => mod_any p3 8 (by decide) (by decide) W
  have hm5 := fun W => mod_any p3 5 (by decide) (by decide) W
  have hm6 := fun W => mod_any p3 6 (by decide) (by decide) W
  generalize p3 % 8 = m8 at hm8
  generalize p3 % 5 = m5 at hm5
  generalize p3 % 6 = m6 at hm6
  have HJ := Lib.hid hj2
  have HK := Lib.hid hk2
  have H8 := Lib.hid hm8
  have H5 := Lib.hid hm5
  have H6 := Lib.hid hm6
  have HA := Lib.hid hA
  have HC1 := Lib.hid hC1
  have HC2 := Lib.hid hC2
  have HC3 := Lib.hid hC3
  clear hj2 hk2 hm8 hm5 hm6 hA hC1 hC2 hC2' hC3 hj
  unfold AnyDev
  have HCK := Lib.hid hc
  clear hc
  obtain ⟨size, op, act, Z⟩ := D
  try simp only at HC1 hlen hz
  have hjI : (j : Int) < (n : Int) := by omega
  have hn0 : ((n : Int) == 0) = false := by simp; omega
  have hx3 := heap_first2 w (devRow size op act (some x) n cap) (devRow 0 0 0 none 0 0)
  have hr3 := heap_second w (devRow size op act (some x) n cap) (devRow 0 0 0 none 0 0)
  go_enter Try.func19, Try.ntmps19
  generalize hw3 : (w.alloc (devRow size op act (some x) n cap)).alloc (devRow 0 0 0 none 0 0) = w3 at *
  obtain ⟨v3, k0, k1, k2, k3⟩ := row4 hx3
  go_wp2_with (first
    | (at_builtin; have s3 : w3.heap.size = w.heap.size + 1 + 1 := (by rw [← hw3]; simp only [World.size_alloc]); have E0 := zones_empty1 w3 rfl; refine wpList_append_lies _ rfl _ _ 22 rfl w3.heap.size 48 i1 _ 3 40 Try.underlying22 hi1 hy0 hy1 hy2 rfl (by decide) _ 0 [] (by rfl) E0 x n cap C rfl (by rw [HC1.out.1, hlen]) (HC2.out _ (HA.out.alloc HA.out.size _)) HC3.out (by omega) (by unfold maxLen; omega) (by omega) (by simp) _ rfl ?_; intro g7 c7 w7 hown7 hgrow7 hat7 hlt7; have O7 := owns_copy hown7; have hgrow7 : (w3.alloc (.cells #[] 48)).grownBy w7 (some w3.heap.size) := hgrow7; have hx7 := (hgrow7.block _ (lt_of_block (row_al hx3 _)) (fun e => by have := Option.some.inj e; omega)).trans (row_al hx3 (.cells #[] 48)); have hr7 := (hgrow7.block _ (lt_of_block (row_al hr3 _)) (fun e => by have := Option.some.inj e; omega)).trans (row_al hr3 (.cells #[] 48)); have b7 := (HA.out.alloc HA.out.size (.cells #[] 48)).grown hgrow7 (by simp; omega) (fun k hk => by have := Option.some.inj hk; omega); have hg7 := (O7.lt g7 rfl).1; obtain ⟨v7, l0, l1, l2, l3⟩ := row4 hx7; have f7 := row_free hx7 3; clear hown7 hgrow7)
    | ((with_reducible refine store_slice_lit 22 (.tmp 14) _ w.heap.size 3 (some ⟨g7, 0, none⟩) n c7 ?_ ?_ ⟨_, l3⟩ f7 zone_slice_info1 ?_); (· rfl); (· rfl); simp only [Act.put]; have hx8 : (w7.setCell ⟨w.heap.size, 3, none⟩ (.slice (some ⟨g7, 0, none⟩) n c7)).heap[w.heap.size]? = some (devRow size op act (some ⟨g7, 0, none⟩) n c7) := setCell_row hx7 3 (.slice (some ⟨g7, 0, none⟩) n c7); have hr8 := (Below.heap_setCell w7 ⟨w.heap.size, 3, none⟩ (.slice (some ⟨g7, 0, none⟩) n c7) (w.heap.size + 1) (by show w.heap.size + 1 ≠ w.heap.size; omega)).trans hr7; have b8 := b7.setCell (show w.heap.size ≤ (⟨w.heap.size, 3, none⟩ : Addr).block from Nat.le_refl _) (.slice (some ⟨g7, 0, none⟩) n c7); have O8 := ownsRow_setCell_other O7 (a := ⟨w.heap.size, 3, none⟩) (fun e => by have := Option.some.inj (show some g7 = some w.heap.size from e); omega) (.slice (some ⟨g7, 0, none⟩) n c7); generalize w7.setCell ⟨w.heap.size, 3, none⟩ (.slice (some ⟨g7, 0, none⟩) n c7) = w8 at hx8 hr8 b8 O8 ⊢; clear l0 l1 l2 l3 f7; obtain ⟨v8, l0, l1, l2, l3⟩ := row4 hx8))
  refine Plan.start (fun W => W.cell? ⟨w.heap.size, 3, none⟩ = some (.slice (some ⟨g7, 0, none⟩) n c7)) [(0, true), (1, true), (2, true), (3, true), (4, true), (5, true), (6, false), (7, true), (8, true)] (by kernel_rfl) (by kernel_rfl) (by kernel_rfl) (by kernel_rfl) l3 ?_
  simp only [List.map_cons, List.map_nil, List.getElem?_toArray, List.getElem?_cons_zero, List.getElem?_cons_succ]
  repeat (first | (refine Plan.take ?_ (by rfl) ?_ ?_; rotate_left; (· rintro w9 u0; go_simp; (try rw [if_neg (by omega)]); all_goals (with_reducible rfl)); simp only [Act.put, List.setIfInBounds_toArray, List.set_cons_zero, List.set_cons_succ]) | (refine Plan.pass (by rfl) ?_; simp only [Act.put, List.setIfInBounds_toArray, List.set_cons_zero, List.set_cons_succ]))
  refine Plan.call (by rfl) 18 _ ?_ (HJ.out _) ?_
  · go_simp
  rintro e w8' ⟨rfl, rfl⟩
  refine ⟨_, rfl, l3, ?_⟩
  simp only [Act.put, List.setIfInBounds_toArray, List.set_cons_zero, List.set_cons_succ]
  repeat (first | (refine Plan.take ?_ (by rfl) ?_ ?_; rotate_left; (· rintro w9 u0; go_simp; (try rw [if_neg (by omega)]); all_goals (with_reducible rfl)); simp only [Act.put, List.setIfInBounds_toArray, List.set_cons_zero, List.set_cons_succ]) | (refine Plan.pass (by rfl) ?_; simp only [Act.put, List.setIfInBounds_toArray, List.set_cons_zero, List.set_cons_succ]))
  refine Plan.ends ?_
  obtain ⟨z, hzk⟩ := zone_of (D := ⟨size, op, act, Z⟩) (k := j) (by show j < Z.length; omega)
  have hzk : Z[j]? = some z := hzk
  have hx9 : w8.drew.heap[w.heap.size]? = some (devRow size op act (some ⟨g7, 0, none⟩) n c7) := hx8
  have hr9 : w8.drew.heap[w.heap.size + 1]? = some (devRow 0 0 0 none 0 0) := hr8
  have b9 := b8.drew
  have O9 : w8.drew.ownsRow w3.heap.size 48 3 (.slice (some ⟨g7, 0, none⟩) n c7) n C := O8
  have Z9 := (HC1.out.on (Agree.below b9)).mono (G := (fun b => b ≠ w.heap.size + 1 ∧ b ≠ g7 ∧ b ≠ w.heap.size)) (fun b _ h => ⟨by omega, by omega, by omega⟩)
  have hgne : g7 ≠ w.heap.size + 1 := by omega
  have hgnw : g7 ≠ w.heap.size := by omega
  clear hx8 hr8 b8 O8 l0 l1 l2 l3 HC1 HC2 HC3 hz
  generalize w8.drew = w9 at hx9 hr9 b9 O9 Z9 ⊢
  generalize w3.heap.size = B at O9
  obtain ⟨v9, l0, l1, l2, l3⟩ := row4 hx9
  obtain ⟨e0, e1, ⟨sa, sl, sc, e2, hss⟩, f0, f1, f2⟩ := odd_cells O9 Z9 hzk
  have g0 := row_free hx9 0
  have g1 := row_free hx9 1
  have g2 := row_free hx9 2
  have g3 := row_free hx9 3
  have hfin : ¬ (fun b => b ≠ w.heap.size + 1 ∧ b ≠ g7 ∧ b ≠ w.heap.size) (w.heap.size + 1) := fun h => h.1 rfl
  have hlt9 : g7 < w9.heap.size := (O9.lt g7 rfl).2
  have hsl := hss.1.length
  have hslm : sl ≤ 1000000 := zone_small HCK.out hzk hsl
  rcases (by omega : kd = 0 ∨ kd = 1 ∨ kd = 2 ∨ kd = 3 ∨ kd = 4 ∨ kd = 5 ∨ kd = 6 ∨ kd = 7 ∨ kd = 8) with rfl | rfl | rfl | rfl | rfl | rfl | rfl | rfl | rfl
  · go_wp2_with (first
      | (go_at_call 18; ((with_reducible refine (HK.out _).mono ?_); rintro e wk ⟨rfl, rfl⟩; clear HK))
      | (go_at_call 18; ((with_reducible refine (H8.out _).mono ?_); rintro e wk ⟨rfl, rfl⟩))
      | ((with_reducible refine store_int_lit 3 (.tmp 37) _ g7 (j * 3) .i64 (wrap64 (m8 - 1)) ?_ ?_ ⟨_, e0⟩ f0 int_info1 ?_); (· rfl); (· rfl); simp only [Act.put]; have hx10 := (Below.heap_setCell w9 ⟨g7, j * 3, none⟩ (.int .i64 (wrap64 (m8 - 1))) w.heap.size (by show w.heap.size ≠ g7; omega)).trans hx9; have hr10 := (Below.heap_setCell w9 ⟨g7, j * 3, none⟩ (.int .i64 (wrap64 (m8 - 1))) (w.heap.size + 1) (by show w.heap.size + 1 ≠ g7; omega)).trans hr9; have b10 := b9.setCell (show w.heap.size ≤ (⟨g7, j * 3, none⟩ : Addr).block by show w.heap.size ≤ g7; omega) (.int .i64 (wrap64 (m8 - 1))); have O10 := owns_cell O9 (j * 3) (.int .i64 (wrap64 (m8 - 1))); have Z10 := (Z9.st hzk (wrap64 (m8 - 1))).on (Agree.setCell (p := ⟨g7, j * 3, none⟩) (fun h => h.2.1 rfl) (.int .i64 (wrap64 (m8 - 1)))); generalize w9.setCell ⟨g7, j * 3, none⟩ (.int .i64 (wrap64 (m8 - 1))) = w10 at hx10 hr10 b10 O10 Z10 ⊢; clear l0 l1 l2 l3; obtain ⟨v10, l0, l1, l2, l3⟩ := row4 hx10)
      | ((with_reducible refine Plan.store_lit 24 (.tmp 8) _ (w.heap.size + 1) ?_ hr10 ?_ ?_ ?_ ?_ ?_ ?_); rotate_left; (· rfl); (· rfl); (· exact dev_info); (· rfl); (· simp [Value.oneCell']); simp only [Act.put]))
    have hend := odd_end (r := w.heap.size + 1) O10 Z10 hfin hgne (by omega) b10 #[.int .i64 size, .int .i64 op, .int .i64 act, .slice (some ⟨g7, 0, none⟩) n c7]
    exact bodyPost_ret (results_cell_row rfl _ _ _ _ _ _ _ rfl (setRow_heap _ _ _ _ _ _ hr10) Try.underlying24 rfl dev_info) rfl ⟨⟨size, op, act, _⟩, _, _, _, rfl, hend.1, hend.2⟩
  · go_wp2_with (first | (go_at_call 18; ((with_reducible refine (HK.out _).mono ?_); rintro e wk ⟨rfl, rfl⟩; clear HK)))
    refine Tree.start (fun _ => True) (.take 0 (.take 1 (.take 2 (.take 3 (.take 5 (.fork 4 (.only 6 (.take 7 (.take 8 (.take 9 (.take 10 (.only 11 (.done))))))) 6 (.only 4 (.take 7 (.take 8 (.take 9 (.take 10 (.only 11 (.done))))))))))))) (by kernel_rfl) (by kernel_rfl) (by kernel_rfl) (by kernel_rfl) trivial ?_
    simp only [Tree.T.map, List.getElem?_toArray, List.getElem?_cons_zero, List.getElem?_cons_succ]
    have e1d : w9.drew.cell? ⟨g7, j * 3 + 1, none⟩ = some (.int .i64 z.durable) := e1
    repeat (first | (refine Tree.take ?_ (by rfl) ?_ ?_; rotate_left; (· rintro w9 -; go_simp; (try rw [if_neg (by omega)]); all_goals (with_reducible rfl)); simp only [Act.put, List.setIfInBounds_toArray, List.set_cons_zero, List.set_cons_succ]))
    refine Tree.fork (by rfl) (by rfl) ?_ ?_
    · refine Tree.wp_make (.int .i64 z.durable) w9.drew ?_ ?_
      · go_simp
        try (with_reducible rfl)
      refine ⟨trivial, ?_⟩
      simp only [Act.put, List.setIfInBounds_toArray, List.set_cons_zero, List.set_cons_succ]
      refine Tree.only (by rfl) ?_
      refine Tree.wp_call 18 _ ?_ (H5.out _) ?_
      · go_simp
      rintro e w9' ⟨rfl, rfl⟩
      refine ⟨_, rfl, trivial, ?_⟩
      simp only [Act.put, List.setIfInBounds_toArray, List.set_cons_zero, List.set_cons_succ]
      repeat (first | (refine Tree.take ?_ (by rfl) ?_ ?_; rotate_left; (· rintro w9 -; go_simp; (try rw [if_neg (by omega)]); all_goals (with_reducible rfl)); simp only [Act.put, List.setIfInBounds_toArray, List.set_cons_zero, List.set_cons_succ]))
      refine Tree.only (by rfl) (wp_store_int 3 _ _ rfl g7 (j * 3 + 1) .i64 (IntKind.i64.wrap (IntKind.i64.wrap (z.durable + m5) - 2)) (by rfl) (by rfl) ⟨_, e1⟩ f1 int_info1 ⟨trivial, ?_⟩)
      simp only [Act.put]
      refine Tree.ends ?_
      have hx10 := (Below.heap_setCell w9.drew ⟨g7, j * 3 + 1, none⟩ (.int .i64 (IntKind.i64.wrap (IntKind.i64.wrap (z.durable + m5) - 2))) w.heap.size (by show w.heap.size ≠ g7; omega)).trans hx9
      have hr10 := (Below.heap_setCell w9.drew ⟨g7, j * 3 + 1, none⟩ (.int .i64 (IntKind.i64.wrap (IntKind.i64.wrap (z.durable + m5) - 2))) (w.heap.size + 1) (by show w.heap.size + 1 ≠ g7; omega)).trans hr9
      have b10 := b9.drew.setCell (show w.heap.size ≤ (⟨g7, j * 3 + 1, none⟩ : Addr).block by show w.heap.size ≤ g7; omega) (.int .i64 (IntKind.i64.wrap (IntKind.i64.wrap (z.durable + m5) - 2)))
      have O10 := owns_cell (w := w9.drew) O9 (j * 3 + 1) (.int .i64 (IntKind.i64.wrap (IntKind.i64.wrap (z.durable + m5) - 2)))
      have Z10 := ((Z9.du hzk (IntKind.i64.wrap (IntKind.i64.wrap (z.durable + m5) - 2))).on (Agree.below (Below.refl w9.heap.size w9).drew)).on (Agree.setCell (p := ⟨g7, j * 3 + 1, none⟩) (fun h => h.2.1 rfl) (.int .i64 (IntKind.i64.wrap (IntKind.i64.wrap (z.durable + m5) - 2))))
      generalize w9.drew.setCell ⟨g7, j * 3 + 1, none⟩ (.int .i64 (IntKind.i64.wrap (IntKind.i64.wrap (z.durable + m5) - 2))) = w10 at hx10 hr10 b10 O10 Z10 ⊢
      clear l0 l1 l2 l3 e0 e1 e2
      obtain ⟨v10, l0, l1, l2, l3⟩ := row4 hx10
      go_wp2_with (first | ((with_reducible refine Plan.store_lit 24 (.tmp 8) _ (w.heap.size + 1) ?_ hr10 ?_ ?_ ?_ ?_ ?_ ?_); rotate_left; (· rfl); (· rfl); (· exact dev_info); (· rfl); (· simp [Value.oneCell']); simp only [Act.put]))
      have hend := odd_end (r := w.heap.size + 1) O10 Z10 hfin hgne (by omega) b10 #[.int .i64 size, .int .i64 op, .int .i64 act, .slice (some ⟨g7, 0, none⟩) n c7]
      exact bodyPost_ret (results_cell_row rfl _ _ _ _ _ _ _ rfl (setRow_heap _ _ _ _ _ _ hr10) Try.underlying24 rfl dev_info) rfl ⟨⟨size, op, act, _⟩, _, _, _, rfl, hend.1, hend.2⟩
    · refine Tree.wp_call 18 _ ?_ (H5.out _) ?_
      · go_simp
      rintro e w9' ⟨rfl, rfl⟩
      refine ⟨_, rfl, trivial, ?_⟩
      simp only [Act.put, List.setIfInBounds_toArray, List.set_cons_zero, List.set_cons_succ]
      refine Tree.only (by rfl) ?_
      refine Tree.wp_make (.int .i64 z.durable) w9.drew ?_ ?_
      · go_simp
        try (with_reducible rfl)
      refine ⟨trivial, ?_⟩
      simp only [Act.put, List.setIfInBounds_toArray, List.set_cons_zero, List.set_cons_succ]
      repeat (first | (refine Tree.take ?_ (by rfl) ?_ ?_; rotate_left; (· rintro w9 -; go_simp; (try rw [if_neg (by omega)]); all_goals (with_reducible rfl)); simp only [Act.put, List.setIfInBounds_toArray, List.set_cons_zero, List.set_cons_succ]))
      refine Tree.only (by rfl) (wp_store_int 3 _ _ rfl g7 (j * 3 + 1) .i64 (IntKind.i64.wrap (IntKind.i64.wrap (z.durable + m5) - 2)) (by rfl) (by rfl) ⟨_, e1⟩ f1 int_info1 ⟨trivial, ?_⟩)
      simp only [Act.put]
      refine Tree.ends ?_
      have hx10 := (Below.heap_setCell w9.drew ⟨g7, j * 3 + 1, none⟩ (.int .i64 (IntKind.i64.wrap (IntKind.i64.wrap (z.durable + m5) - 2))) w.heap.size (by show w.heap.size ≠ g7; omega)).trans hx9
      have hr10 := (Below.heap_setCell w9.drew ⟨g7, j * 3 + 1, none⟩ (.int .i64 (IntKind.i64.wrap (IntKind.i64.wrap (z.durable + m5) - 2))) (w.heap.size + 1) (by show w.heap.size + 1 ≠ g7; omega)).trans hr9
      have b10 := b9.drew.setCell (show w.heap.size ≤ (⟨g7, j * 3 + 1, none⟩ : Addr).block by show w.heap.size ≤ g7; omega) (.int .i64 (IntKind.i64.wrap (IntKind.i64.wrap (z.durable + m5) - 2)))
      have O10 := owns_cell (w := w9.drew) O9 (j * 3 + 1) (.int .i64 (IntKind.i64.wrap (IntKind.i64.wrap (z.durable + m5) - 2)))
      have Z10 := ((Z9.du hzk (IntKind.i64.wrap (IntKind.i64.wrap (z.durable + m5) - 2))).on (Agree.below (Below.refl w9.heap.size w9).drew)).on (Agree.setCell (p := ⟨g7, j * 3 + 1, none⟩) (fun h => h.2.1 rfl) (.int .i64 (IntKind.i64.wrap (IntKind.i64.wrap (z.durable + m5) - 2))))
      generalize w9.drew.setCell ⟨g7, j * 3 + 1, none⟩ (.int .i64 (IntKind.i64.wrap (IntKind.i64.wrap (z.durable + m5) - 2))) = w10 at hx10 hr10 b10 O10 Z10 ⊢
      clear l0 l1 l2 l3 e0 e1 e2
      obtain ⟨v10, l0, l1, l2, l3⟩ := row4 hx10
      go_wp2_with (first | ((with_reducible refine Plan.store_lit 24 (.tmp 8) _ (w.heap.size + 1) ?_ hr10 ?_ ?_ ?_ ?_ ?_ ?_); rotate_left; (· rfl); (· rfl); (· exact dev_info); (· rfl); (· simp [Value.oneCell']); simp only [Act.put]))
      have hend := odd_end (r := w.heap.size + 1) O10 Z10 hfin hgne (by omega) b10 #[.int .i64 size, .int .i64 op, .int .i64 act, .slice (some ⟨g7, 0, none⟩) n c7]
      exact bodyPost_ret (results_cell_row rfl _ _ _ _ _ _ _ rfl (setRow_heap _ _ _ _ _ _ hr10) Try.underlying24 rfl dev_info) rfl ⟨⟨size, op, act, _⟩, _, _, _, rfl, hend.1, hend.2⟩
  · have hsm : ∀ t ∈ z.sectors ++ [(⟨#[120]⟩ : ByteArray)], t.size ≤ maxLen := by
      intro t ht
      rcases List.mem_append.1 ht with h | h
      · exact strs_small hss.1 t h
      · obtain rfl : t = ⟨#[120]⟩ := by simpa using h
        unfold maxLen; decide
    go_wp2_with (first
      | (go_at_call 18; ((with_reducible refine (HK.out _).mono ?_); rintro e wk ⟨rfl, rfl⟩; clear HK))
      | (at_builtin; have E0 := strs_empty w9 (H := w9.heap.size) rfl; have c4 := (Below.refl w9.heap.size w9).alloc (Nat.le_refl _) (.cells #[] 9); refine append_list rfl _ _ rfl w9.heap.size (.slice (some ⟨w9.heap.size, 0, none⟩) 0 0) rfl E0 sa sl sc z.sectors rfl (hss.1.on c4 (Nat.le_refl _)) hslm (by simp only [World.size_alloc]; omega) ?_; intro v5 w5 hown5 hgrow5; have c5 := below_grow c4 E0 (Nat.le_refl _) (by simp only [World.size_alloc]; omega) hgrow5; have hx5 := row_on c5 hx9 (lt_of_block hx9); have own6 := Lib.hid (owns_on hown5 ((Below.refl _ _).alloc (Nat.le_refl _) (.cells #[.string ⟨#[120]⟩] 9))); clear E0 hown5 hgrow5)
      | (at_builtin; have m5 := c5.size; refine append_one rfl _ _ rfl w9.heap.size v5 sl z.sectors rfl own6.out w5.heap.size ⟨#[120]⟩ rfl (cell_of_row _ _ 0 _ _ _ (heap_alloc_new w5 _)) hslm (by simp only [World.size_alloc]; omega) ?_; intro v7' w10 hown7 hgrow7; obtain ⟨g10, c10, rfl, hg10, hl10⟩ := owned_some hown7 (by omega); have c7' := below_grow (c5.alloc c5.size (.cells #[.string ⟨#[120]⟩] 9)) own6.out (Nat.le_refl _) (by simp only [World.size_alloc]; omega) hgrow7; have hx10 := row_on c7' hx9 (lt_of_block hx9); have hr10 := row_on c7' hr9 (lt_of_block hr9); have b10 := b9.trans (c7'.mono b9.size); have O10 := zowns_on O9 c7'; have Z10 := Z9.on (Agree.below c7'); have S10 := strsIn_own (F := (fun b => b ≠ w.heap.size + 1 ∧ b ≠ g7 ∧ b ≠ w.heap.size)) hown7 hsm ⟨by omega, by omega, by omega⟩; obtain ⟨t0, t1, ⟨ua, ul, uc, t2, -⟩, r0, r1, r2⟩ := odd_cells O10 Z10 hzk; clear hown7 hgrow7)
      | ((with_reducible refine store_slice_lit 46 (.tmp 63) _ g7 (j * 3 + 2) (some ⟨g10, 0, none⟩) (sl + 1) c10 ?_ ?_ ⟨_, t2⟩ r2 str_slice_info1 ?_); (· rfl); (· rfl); simp only [Act.put]; have hx11 := (Below.heap_setCell w10 ⟨g7, j * 3 + 2, none⟩ (.slice (some ⟨g10, 0, none⟩) (sl + 1) c10) w.heap.size (by show w.heap.size ≠ g7; omega)).trans hx10; have hr11 := (Below.heap_setCell w10 ⟨g7, j * 3 + 2, none⟩ (.slice (some ⟨g10, 0, none⟩) (sl + 1) c10) (w.heap.size + 1) (by show w.heap.size + 1 ≠ g7; omega)).trans hr10; have b11 := b10.setCell (show w.heap.size ≤ (⟨g7, j * 3 + 2, none⟩ : Addr).block by show w.heap.size ≤ g7; omega) (.slice (some ⟨g10, 0, none⟩) (sl + 1) c10); have O11 := owns_cell O10 (j * 3 + 2) (.slice (some ⟨g10, 0, none⟩) (sl + 1) c10); have Z11 := (Z10.se hzk S10).on (Agree.setCell (p := ⟨g7, j * 3 + 2, none⟩) (fun h => h.2.1 rfl) (.slice (some ⟨g10, 0, none⟩) (sl + 1) c10)); generalize w10.setCell ⟨g7, j * 3 + 2, none⟩ (.slice (some ⟨g10, 0, none⟩) (sl + 1) c10) = w11 at hx11 hr11 b11 O11 Z11 ⊢; clear l0 l1 l2 l3 t0 t1 t2; obtain ⟨v11, l0, l1, l2, l3⟩ := row4 hx11)
      | ((with_reducible refine Plan.store_lit 24 (.tmp 8) _ (w.heap.size + 1) ?_ hr11 ?_ ?_ ?_ ?_ ?_ ?_); rotate_left; (· rfl); (· rfl); (· exact dev_info); (· rfl); (· simp [Value.oneCell']); simp only [Act.put]))
    have hend := odd_end (r := w.heap.size + 1) O11 Z11 hfin hgne (by omega) b11 #[.int .i64 size, .int .i64 op, .int .i64 act, .slice (some ⟨g7, 0, none⟩) n c7]
    exact bodyPost_ret (results_cell_row rfl _ _ _ _ _ _ _ rfl (setRow_heap _ _ _ _ _ _ hr11) Try.underlying24 rfl dev_info) rfl ⟨⟨size, op, act, _⟩, _, _, _, rfl, hend.1, hend.2⟩
  · go_wp2_with (first | (go_at_call 18; ((with_reducible refine (HK.out _).mono ?_); rintro e wk ⟨rfl, rfl⟩; clear HK)))
    refine Tree.start (fun _ => True) (.take 0 (.take 2 (.fork 1 (.only 3 (.take 4 (.take 5 (.take 6 (.only 7 (.done)))))) 3 (.only 1 (.take 4 (.take 5 (.take 6 (.only 7 (.done))))))))) (by kernel_rfl) (by kernel_rfl) (by kernel_rfl) (by kernel_rfl) trivial ?_
    simp only [Tree.T.map, List.getElem?_toArray, List.getElem?_cons_zero, List.getElem?_cons_succ]
    have l0d : w9.drew.cell? ⟨w.heap.size, 0, none⟩ = some (.int .i64 size) := l0
    repeat (first | (refine Tree.take ?_ (by rfl) ?_ ?_; rotate_left; (· rintro w9 -; go_simp; (try rw [if_neg (by omega)]); all_goals (with_reducible rfl)); simp only [Act.put, List.setIfInBounds_toArray, List.set_cons_zero, List.set_cons_succ]))
    refine Tree.fork (by rfl) (by rfl) ?_ ?_
    · refine Tree.wp_make (.int .i64 size) w9.drew ?_ ?_
      · go_simp
        try (with_reducible rfl)
      refine ⟨trivial, ?_⟩
      simp only [Act.put, List.setIfInBounds_toArray, List.set_cons_zero, List.set_cons_succ]
      refine Tree.only (by rfl) ?_
      refine Tree.wp_call 18 _ ?_ (H5.out _) ?_
      · go_simp
      rintro e w9' ⟨rfl, rfl⟩
      refine ⟨_, rfl, trivial, ?_⟩
      simp only [Act.put, List.setIfInBounds_toArray, List.set_cons_zero, List.set_cons_succ]
      repeat (first | (refine Tree.take ?_ (by rfl) ?_ ?_; rotate_left; (· rintro w9 -; go_simp; (try rw [if_neg (by omega)]); all_goals (with_reducible rfl)); simp only [Act.put, List.setIfInBounds_toArray, List.set_cons_zero, List.set_cons_succ]))
      refine Tree.only (by rfl) (wp_store_int 3 _ _ rfl w.heap.size 0 .i64 (IntKind.i64.wrap (IntKind.i64.wrap (size + m5) - 2)) (by rfl) (by rfl) ⟨_, l0⟩ g0 int_info1 ⟨trivial, ?_⟩)
      simp only [Act.put]
      refine Tree.ends ?_
      have hx10 : (w9.drew.setCell ⟨w.heap.size, 0, none⟩ (.int .i64 (IntKind.i64.wrap (IntKind.i64.wrap (size + m5) - 2)))).heap[w.heap.size]? = some (devRow (IntKind.i64.wrap (IntKind.i64.wrap (size + m5) - 2)) op act (some ⟨g7, 0, none⟩) n c7) := setCell_row (w := w9.drew) hx9 0 (.int .i64 (IntKind.i64.wrap (IntKind.i64.wrap (size + m5) - 2)))
      have hr10 := (Below.heap_setCell w9.drew ⟨w.heap.size, 0, none⟩ (.int .i64 (IntKind.i64.wrap (IntKind.i64.wrap (size + m5) - 2))) (w.heap.size + 1) (by show w.heap.size + 1 ≠ w.heap.size; omega)).trans hr9
      have b10 := b9.drew.setCell (show w.heap.size ≤ (⟨w.heap.size, 0, none⟩ : Addr).block from Nat.le_refl _) (.int .i64 (IntKind.i64.wrap (IntKind.i64.wrap (size + m5) - 2)))
      have O10 := ownsRow_setCell_other (w := w9.drew) O9 (a := ⟨w.heap.size, 0, none⟩) (fun e => by have := Option.some.inj (show some g7 = some w.heap.size from e); omega) (.int .i64 (IntKind.i64.wrap (IntKind.i64.wrap (size + m5) - 2)))
      have Z10 := (Z9.on (Agree.below (Below.refl w9.heap.size w9).drew)).on (Agree.setCell (p := ⟨w.heap.size, 0, none⟩) (fun h => h.2.2 rfl) (.int .i64 (IntKind.i64.wrap (IntKind.i64.wrap (size + m5) - 2))))
      generalize w9.drew.setCell ⟨w.heap.size, 0, none⟩ (.int .i64 (IntKind.i64.wrap (IntKind.i64.wrap (size + m5) - 2))) = w10 at hx10 hr10 b10 O10 Z10 ⊢
      generalize IntKind.i64.wrap (IntKind.i64.wrap (size + m5) - 2) = V at hx10 ⊢
      clear l0 l1 l2 l3
      obtain ⟨v10, l0, l1, l2, l3⟩ := row4 hx10
      go_wp2_with (first | ((with_reducible refine Plan.store_lit 24 (.tmp 8) _ (w.heap.size + 1) ?_ hr10 ?_ ?_ ?_ ?_ ?_ ?_); rotate_left; (· rfl); (· rfl); (· exact dev_info); (· rfl); (· simp [Value.oneCell']); simp only [Act.put]))
      have hend := odd_end (r := w.heap.size + 1) O10 Z10 hfin hgne (by omega) b10 #[.int .i64 (V), .int .i64 op, .int .i64 act, .slice (some ⟨g7, 0, none⟩) n c7]
      exact bodyPost_ret (results_cell_row rfl _ _ _ _ _ _ _ rfl (setRow_heap _ _ _ _ _ _ hr10) Try.underlying24 rfl dev_info) rfl ⟨⟨V, op, act, _⟩, _, _, _, rfl, hend.1, hend.2⟩
    · refine Tree.wp_call 18 _ ?_ (H5.out _) ?_
      · go_simp
      rintro e w9' ⟨rfl, rfl⟩
      refine ⟨_, rfl, trivial, ?_⟩
      simp only [Act.put, List.setIfInBounds_toArray, List.set_cons_zero, List.set_cons_succ]
      refine Tree.only (by rfl) ?_
      refine Tree.wp_make (.int .i64 size) w9.drew ?_ ?_
      · go_simp
        try (with_reducible rfl)
      refine ⟨trivial, ?_⟩
      simp only [Act.put, List.setIfInBounds_toArray, List.set_cons_zero, List.set_cons_succ]
      repeat (first | (refine Tree.take ?_ (by rfl) ?_ ?_; rotate_left; (· rintro w9 -; go_simp; (try rw [if_neg (by omega)]); all_goals (with_reducible rfl)); simp only [Act.put, List.setIfInBounds_toArray, List.set_cons_zero, List.set_cons_succ]))
      refine Tree.only (by rfl) (wp_store_int 3 _ _ rfl w.heap.size 0 .i64 (IntKind.i64.wrap (IntKind.i64.wrap (size + m5) - 2)) (by rfl) (by rfl) ⟨_, l0⟩ g0 int_info1 ⟨trivial, ?_⟩)
      simp only [Act.put]
      refine Tree.ends ?_
      have hx10 : (w9.drew.setCell ⟨w.heap.size, 0, none⟩ (.int .i64 (IntKind.i64.wrap (IntKind.i64.wrap (size + m5) - 2)))).heap[w.heap.size]? = some (devRow (IntKind.i64.wrap (IntKind.i64.wrap (size + m5) - 2)) op act (some ⟨g7, 0, none⟩) n c7) := setCell_row (w := w9.drew) hx9 0 (.int .i64 (IntKind.i64.wrap (IntKind.i64.wrap (size + m5) - 2)))
      have hr10 := (Below.heap_setCell w9.drew ⟨w.heap.size, 0, none⟩ (.int .i64 (IntKind.i64.wrap (IntKind.i64.wrap (size + m5) - 2))) (w.heap.size + 1) (by show w.heap.size + 1 ≠ w.heap.size; omega)).trans hr9
      have b10 := b9.drew.setCell (show w.heap.size ≤ (⟨w.heap.size, 0, none⟩ : Addr).block from Nat.le_refl _) (.int .i64 (IntKind.i64.wrap (IntKind.i64.wrap (size + m5) - 2)))
      have O10 := ownsRow_setCell_other (w := w9.drew) O9 (a := ⟨w.heap.size, 0, none⟩) (fun e => by have := Option.some.inj (show some g7 = some w.heap.size from e); omega) (.int .i64 (IntKind.i64.wrap (IntKind.i64.wrap (size + m5) - 2)))
      have Z10 := (Z9.on (Agree.below (Below.refl w9.heap.size w9).drew)).on (Agree.setCell (p := ⟨w.heap.size, 0, none⟩) (fun h => h.2.2 rfl) (.int .i64 (IntKind.i64.wrap (IntKind.i64.wrap (size + m5) - 2))))
      generalize w9.drew.setCell ⟨w.heap.size, 0, none⟩ (.int .i64 (IntKind.i64.wrap (IntKind.i64.wrap (size + m5) - 2))) = w10 at hx10 hr10 b10 O10 Z10 ⊢
      generalize IntKind.i64.wrap (IntKind.i64.wrap (size + m5) - 2) = V at hx10 ⊢
      clear l0 l1 l2 l3
      obtain ⟨v10, l0, l1, l2, l3⟩ := row4 hx10
      go_wp2_with (first | ((with_reducible refine Plan.store_lit 24 (.tmp 8) _ (w.heap.size + 1) ?_ hr10 ?_ ?_ ?_ ?_ ?_ ?_); rotate_left; (· rfl); (· rfl); (· exact dev_info); (· rfl); (· simp [Value.oneCell']); simp only [Act.put]))
      have hend := odd_end (r := w.heap.size + 1) O10 Z10 hfin hgne (by omega) b10 #[.int .i64 (V), .int .i64 op, .int .i64 act, .slice (some ⟨g7, 0, none⟩) n c7]
      exact bodyPost_ret (results_cell_row rfl _ _ _ _ _ _ _ rfl (setRow_heap _ _ _ _ _ _ hr10) Try.underlying24 rfl dev_info) rfl ⟨⟨V, op, act, _⟩, _, _, _, rfl, hend.1, hend.2⟩

  · go_wp2_with (first
      | (go_at_call 18; ((with_reducible refine (HK.out _).mono ?_); rintro e wk ⟨rfl, rfl⟩; clear HK))
      | (go_at_call 18; ((with_reducible refine (H5.out _).mono ?_); rintro e wk ⟨rfl, rfl⟩))
      | ((with_reducible refine store_int_lit 3 (.tmp 77) _ w.heap.size 1 .i64 m5 ?_ ?_ ⟨_, l1⟩ g1 int_info1 ?_); (· rfl); (· rfl); simp only [Act.put]; have hx10 : (w9.setCell ⟨w.heap.size, 1, none⟩ (.int .i64 m5)).heap[w.heap.size]? = some (devRow size m5 act (some ⟨g7, 0, none⟩) n c7) := setCell_row hx9 1 (.int .i64 m5); have hr10 := (Below.heap_setCell w9 ⟨w.heap.size, 1, none⟩ (.int .i64 m5) (w.heap.size + 1) (by show w.heap.size + 1 ≠ w.heap.size; omega)).trans hr9; have b10 := b9.setCell (show w.heap.size ≤ (⟨w.heap.size, 1, none⟩ : Addr).block from Nat.le_refl _) (.int .i64 m5); have O10 := ownsRow_setCell_other O9 (a := ⟨w.heap.size, 1, none⟩) (fun e => by have := Option.some.inj (show some g7 = some w.heap.size from e); omega) (.int .i64 m5); have Z10 := Z9.on (Agree.setCell (p := ⟨w.heap.size, 1, none⟩) (fun h => h.2.2 rfl) (.int .i64 m5)); generalize w9.setCell ⟨w.heap.size, 1, none⟩ (.int .i64 m5) = w10 at hx10 hr10 b10 O10 Z10 ⊢; clear l0 l1 l2 l3; obtain ⟨v10, l0, l1, l2, l3⟩ := row4 hx10)
      | ((with_reducible refine Plan.store_lit 24 (.tmp 8) _ (w.heap.size + 1) ?_ hr10 ?_ ?_ ?_ ?_ ?_ ?_); rotate_left; (· rfl); (· rfl); (· exact dev_info); (· rfl); (· simp [Value.oneCell']); simp only [Act.put]))
    have hend := odd_end (r := w.heap.size + 1) O10 Z10 hfin hgne (by omega) b10 #[.int .i64 size, .int .i64 m5, .int .i64 act, .slice (some ⟨g7, 0, none⟩) n c7]
    exact bodyPost_ret (results_cell_row rfl _ _ _ _ _ _ _ rfl (setRow_heap _ _ _ _ _ _ hr10) Try.underlying24 rfl dev_info) rfl ⟨⟨size, m5, act, _⟩, _, _, _, rfl, hend.1, hend.2⟩
  · go_wp2_with (first
      | (go_at_call 18; ((with_reducible refine (HK.out _).mono ?_); rintro e wk ⟨rfl, rfl⟩; clear HK))
      | (go_at_call 18; ((with_reducible refine (H6.out _).mono ?_); rintro e wk ⟨rfl, rfl⟩))
      | ((with_reducible refine store_int_lit 3 (.tmp 82) _ w.heap.size 2 .i64 m6 ?_ ?_ ⟨_, l2⟩ g2 int_info1 ?_); (· rfl); (· rfl); simp only [Act.put]; have hx10 : (w9.setCell ⟨w.heap.size, 2, none⟩ (.int .i64 m6)).heap[w.heap.size]? = some (devRow size op m6 (some ⟨g7, 0, none⟩) n c7) := setCell_row hx9 2 (.int .i64 m6); have hr10 := (Below.heap_setCell w9 ⟨w.heap.size, 2, none⟩ (.int .i64 m6) (w.heap.size + 1) (by show w.heap.size + 1 ≠ w.heap.size; omega)).trans hr9; have b10 := b9.setCell (show w.heap.size ≤ (⟨w.heap.size, 2, none⟩ : Addr).block from Nat.le_refl _) (.int .i64 m6); have O10 := ownsRow_setCell_other O9 (a := ⟨w.heap.size, 2, none⟩) (fun e => by have := Option.some.inj (show some g7 = some w.heap.size from e); omega) (.int .i64 m6); have Z10 := Z9.on (Agree.setCell (p := ⟨w.heap.size, 2, none⟩) (fun h => h.2.2 rfl) (.int .i64 m6)); generalize w9.setCell ⟨w.heap.size, 2, none⟩ (.int .i64 m6) = w10 at hx10 hr10 b10 O10 Z10 ⊢; clear l0 l1 l2 l3; obtain ⟨v10, l0, l1, l2, l3⟩ := row4 hx10)
      | ((with_reducible refine Plan.store_lit 24 (.tmp 8) _ (w.heap.size + 1) ?_ hr10 ?_ ?_ ?_ ?_ ?_ ?_); rotate_left; (· rfl); (· rfl); (· exact dev_info); (· rfl); (· simp [Value.oneCell']); simp only [Act.put]))
    have hend := odd_end (r := w.heap.size + 1) O10 Z10 hfin hgne (by omega) b10 #[.int .i64 size, .int .i64 op, .int .i64 m6, .slice (some ⟨g7, 0, none⟩) n c7]
    exact bodyPost_ret (results_cell_row rfl _ _ _ _ _ _ _ rfl (setRow_heap _ _ _ _ _ _ hr10) Try.underlying24 rfl dev_info) rfl ⟨⟨size, op, m6, _⟩, _, _, _, rfl, hend.1, hend.2⟩
  · go_wp2_with (first
      | (go_at_call 18; ((with_reducible refine (HK.out _).mono ?_); rintro e wk ⟨rfl, rfl⟩; clear HK))
      | ((with_reducible refine store_slice_lit 22 (.tmp 85) _ w.heap.size 3 none 0 0 ?_ ?_ ⟨_, l3⟩ g3 zone_slice_info1 ?_); (· rfl); (· rfl); simp only [Act.put]; have hx10 : (w9.setCell ⟨w.heap.size, 3, none⟩ (.slice none 0 0)).heap[w.heap.size]? = some (devRow size op act none 0 0) := setCell_row hx9 3 (.slice none 0 0); have hr10 := (Below.heap_setCell w9 ⟨w.heap.size, 3, none⟩ (.slice none 0 0) (w.heap.size + 1) (by show w.heap.size + 1 ≠ w.heap.size; omega)).trans hr9; have b10 := b9.setCell (show w.heap.size ≤ (⟨w.heap.size, 3, none⟩ : Addr).block from Nat.le_refl _) (.slice none 0 0); generalize w9.setCell ⟨w.heap.size, 3, none⟩ (.slice none 0 0) = w10 at hx10 hr10 b10 ⊢; clear l0 l1 l2 l3; obtain ⟨v10, l0, l1, l2, l3⟩ := row4 hx10)
      | ((with_reducible refine Plan.store_lit 24 (.tmp 8) _ (w.heap.size + 1) ?_ hr10 ?_ ?_ ?_ ?_ ?_ ?_); rotate_left; (· rfl); (· rfl); (· exact dev_info); (· rfl); (· simp [Value.oneCell']); simp only [Act.put]))
    exact bodyPost_ret (results_cell_row rfl _ _ _ _ _ _ _ rfl (setRow_heap _ _ _ _ _ _ hr10) Try.underlying24 rfl dev_info) rfl ⟨⟨size, op, act, []⟩, none, 0, 0, rfl, .inl ⟨rfl, rfl, rfl, rfl⟩, below_setRow b10 (by omega) _⟩
  · have hz9k := hzk
    go_wp2_with (first
      | (go_at_call 18; ((with_reducible refine (HK.out _).mono ?_); rintro e wk ⟨rfl, rfl⟩; clear HK))
      | ((with_reducible refine store_int_lit 3 (.tmp 92) _ g7 (j * 3) .i64 5 ?_ ?_ ⟨_, e0⟩ f0 int_info1 ?_); (· rfl); (· rfl); simp only [Act.put]; have hx10 := (Below.heap_setCell w9 ⟨g7, j * 3, none⟩ (.int .i64 5) w.heap.size (by show w.heap.size ≠ g7; omega)).trans hx9; have hr10 := (Below.heap_setCell w9 ⟨g7, j * 3, none⟩ (.int .i64 5) (w.heap.size + 1) (by show w.heap.size + 1 ≠ g7; omega)).trans hr9; have b10 := b9.setCell (show w.heap.size ≤ (⟨g7, j * 3, none⟩ : Addr).block by show w.heap.size ≤ g7; omega) (.int .i64 5); have O10 := owns_cell O9 (j * 3) (.int .i64 5); have Z10 := (Z9.st hz9k 5).on (Agree.setCell (p := ⟨g7, j * 3, none⟩) (fun h => h.2.1 rfl) (.int .i64 5)); generalize w9.setCell ⟨g7, j * 3, none⟩ (.int .i64 5) = w10 at hx10 hr10 b10 O10 Z10 ⊢; have hz10k := set_at (y := ⟨5, z.durable, z.sectors⟩) hz9k; obtain ⟨s0, s1, ⟨sa, sl, sc, s2, -⟩, sf0, sf1, sf2⟩ := odd_cells O10 Z10 hz10k; clear l0 l1 l2 l3; obtain ⟨v10, l0, l1, l2, l3⟩ := row4 hx10)
      | ((with_reducible refine store_slice_lit 46 (.tmp 94) _ g7 (j * 3 + 2) none 0 0 ?_ ?_ ⟨_, s2⟩ sf2 str_slice_info1 ?_); (· rfl); (· rfl); simp only [Act.put]; have hx11 := (Below.heap_setCell w10 ⟨g7, j * 3 + 2, none⟩ (.slice none 0 0) w.heap.size (by show w.heap.size ≠ g7; omega)).trans hx10; have hr11 := (Below.heap_setCell w10 ⟨g7, j * 3 + 2, none⟩ (.slice none 0 0) (w.heap.size + 1) (by show w.heap.size + 1 ≠ g7; omega)).trans hr10; have b11 := b10.setCell (show w.heap.size ≤ (⟨g7, j * 3 + 2, none⟩ : Addr).block by show w.heap.size ≤ g7; omega) (.slice none 0 0); have O11 := owns_cell O10 (j * 3 + 2) (.slice none 0 0); have Z11 := (Z10.se (L := []) hz10k (empty_in _ _)).on (Agree.setCell (p := ⟨g7, j * 3 + 2, none⟩) (fun h => h.2.1 rfl) (.slice none 0 0)); generalize w10.setCell ⟨g7, j * 3 + 2, none⟩ (.slice none 0 0) = w11 at hx11 hr11 b11 O11 Z11 ⊢; have hz11k := set_at (y := ⟨5, z.durable, []⟩) hz10k; obtain ⟨u0, u1, ⟨ua, ul, uc, u2, -⟩, uf0, uf1, uf2⟩ := odd_cells O11 Z11 hz11k; clear l0 l1 l2 l3; obtain ⟨v11, l0, l1, l2, l3⟩ := row4 hx11)
      | ((with_reducible refine store_int_lit 3 (.tmp 96) _ g7 (j * 3 + 1) .i64 0 ?_ ?_ ⟨_, u1⟩ uf1 int_info1 ?_); (· rfl); (· rfl); simp only [Act.put]; have hx12 := (Below.heap_setCell w11 ⟨g7, j * 3 + 1, none⟩ (.int .i64 0) w.heap.size (by show w.heap.size ≠ g7; omega)).trans hx11; have hr12 := (Below.heap_setCell w11 ⟨g7, j * 3 + 1, none⟩ (.int .i64 0) (w.heap.size + 1) (by show w.heap.size + 1 ≠ g7; omega)).trans hr11; have b12 := b11.setCell (show w.heap.size ≤ (⟨g7, j * 3 + 1, none⟩ : Addr).block by show w.heap.size ≤ g7; omega) (.int .i64 0); have O12 := owns_cell O11 (j * 3 + 1) (.int .i64 0); have Z12 := (Z11.du hz11k 0).on (Agree.setCell (p := ⟨g7, j * 3 + 1, none⟩) (fun h => h.2.1 rfl) (.int .i64 0)); generalize w11.setCell ⟨g7, j * 3 + 1, none⟩ (.int .i64 0) = w12 at hx12 hr12 b12 O12 Z12 ⊢; clear l0 l1 l2 l3; obtain ⟨v12, l0, l1, l2, l3⟩ := row4 hx12)
      | ((with_reducible refine Plan.store_lit 24 (.tmp 8) _ (w.heap.size + 1) ?_ hr12 ?_ ?_ ?_ ?_ ?_ ?_); rotate_left; (· rfl); (· rfl); (· exact dev_info); (· rfl); (· simp [Value.oneCell']); simp only [Act.put]))
    have hend := odd_end (r := w.heap.size + 1) O12 Z12 hfin hgne (by omega) b12 #[.int .i64 size, .int .i64 op, .int .i64 act, .slice (some ⟨g7, 0, none⟩) n c7]
    exact bodyPost_ret (results_cell_row rfl _ _ _ _ _ _ _ rfl (setRow_heap _ _ _ _ _ _ hr12) Try.underlying24 rfl dev_info) rfl ⟨⟨size, op, act, _⟩, _, _, _, rfl, hend.1, hend.2⟩

  · go_wp2_with (first
      | (go_at_call 18; ((with_reducible refine (HK.out _).mono ?_); rintro e wk ⟨rfl, rfl⟩; clear HK))
      | ((with_reducible refine Plan.store_lit 24 (.tmp 8) _ (w.heap.size + 1) ?_ hr9 ?_ ?_ ?_ ?_ ?_ ?_); rotate_left; (· rfl); (· rfl); (· exact dev_info); (· rfl); (· simp [Value.oneCell']); simp only [Act.put]))
    have hend := odd_end (r := w.heap.size + 1) O9 Z9 hfin hgne (by omega) b9 #[.int .i64 size, .int .i64 op, .int .i64 act, .slice (some ⟨g7, 0, none⟩) n c7]
    exact bodyPost_ret (results_cell_row rfl _ _ _ _ _ _ _ rfl (setRow_heap _ _ _ _ _ _ hr9) Try.underlying24 rfl dev_info) rfl ⟨⟨size, op, act, _⟩, _, _, _, rfl, hend.1, hend.2⟩
end Go.Proofs.Ytlmlmgegnnikeaa

/- The walk of the maker's Device. -/
namespace Go.Proofs.Ytlmlmgegnnikeaa
open Go.RowKit Plan ZnsMath

/-- what the maker's Device leaves: a valid device with two to five zones -/
def DevMade (w : World) (e : Ending) (w' : World) : Prop :=
  ∃ (D : Dev) (a : Option Addr) (n cap : Nat), e = .returned (devV D a n cap) ∧ ZonesIn w' (fun b => w.heap.size ≤ b) a n cap D.zones ∧ checkE D = 0 ∧ 2 ≤ n ∧ n ≤ 5 ∧ Below w.heap.size w w'
theorem below_of_grown {B : Nat} {w0 w w' : World} {g : Nat} (hb : Below B w0 w) (h : w.grownBy w' (some g)) (hg : B ≤ g) (hB : B ≤ w.heap.size) : Below B w0 w' :=
  hb.grown h hB (fun k hk => by have := Option.some.inj hk; omega)
theorem new_valid {n v u : Nat} (h1 : 2 ≤ n) (h2 : n ≤ 5) (h3 : v < 3) (h4 : u < 2) : newE (n : Int) (3 + (v : Int)) (1 + (u : Int)) 2 = 0 := by
  rw [newE_eq, if_pos]
  unfold possibleB
  simp only [decide_eq_true_eq]
  omega
theorem row_keep {k : IntKind} {w w' : World} {a : Option Addr} {len cap : Nat} {zs : List Int} (h : IsRow k w a len cap zs) (hb : Below w.heap.size w w') : IsRow k w' a len cap zs := by
  rcases h with h | ⟨x, h1, h2, h3, h4, h5, h6⟩
  · exact .inl h
  · refine .inr ⟨x, h1, h2, h3, h4, fun i hi => ?_, h6⟩
    have hc := h5 i hi
    rw [hb.cell (block_lt_of_cell hc), hc]
theorem dice_cell {w : World} {base g : Nat} {zs : List Int} {k : Nat} (h : Dice w base g zs k) : w.cell? ⟨g, 1, none⟩ = some (.int .i64 k) := by
  obtain ⟨v, hg, _⟩ := h
  exact cell_of_row _ _ 1 _ _ _ hg
theorem nxt_nat (zs : List Int) (k m : Nat) (h : 1 ≤ m) : ∃ v : Nat, nxt zs k (m : Int) = (v : Int) ∧ v < m := by
  have := nxt_range zs k (m : Int) (by omega)
  exact ⟨(nxt zs k (m : Int)).toNat, by omega, by omega⟩
set_option maxHeartbeats 2000000 in
set_option maxRecDepth 20000 in
theorem device_any (a : Option Addr) (len cap : Nat) (z : List Int) (w : World) (hrow : IsRow .i64 w a len cap z) (hl : len ≤ 300) :
    Calls Try.prog 16 #[.slice a len cap] w (DevMade w) := by
  have hA : Below w.heap.size w (w.alloc (devRow 0 0 0 none 0 0)) := (Below.refl _ _).alloc (Nat.le_refl _) _
  have hro := roll_any a len cap z (w.alloc (devRow 0 0 0 none 0 0)) (row_keep hrow hA) hl
  have hzl : (z.take len).length ≤ 300 := by rw [List.length_take]; omega
  generalize z.take len = zs at *
  obtain ⟨v1, hv1, hb1⟩ := nxt_nat zs 0 4 (by decide)
  obtain ⟨v2, hv2, hb2⟩ := nxt_nat zs (stp zs 0) 3 (by decide)
  obtain ⟨v3, hv3, hb3⟩ := nxt_nat zs (stp zs (stp zs 0)) 2 (by decide)
  obtain ⟨n, hn⟩ : ∃ n : Nat, 2 + v1 = n := ⟨_, rfl⟩
  obtain ⟨s, hs⟩ : ∃ s : Nat, 3 + v2 = s := ⟨_, rfl⟩
  obtain ⟨o, ho⟩ : ∃ o : Nat, 1 + v3 = o := ⟨_, rfl⟩
  have hw1 : IntKind.i64.wrap (2 + (v1 : Int)) = (n : Int) := by rw [IntKind.wrap_i64]; omega
  have hw2 : IntKind.i64.wrap (3 + (v2 : Int)) = (s : Int) := by rw [IntKind.wrap_i64]; omega
  have hw3 : IntKind.i64.wrap (1 + (v3 : Int)) = (o : Int) := by rw [IntKind.wrap_i64]; omega
  have hne : newE (n : Int) (s : Int) (o : Int) 2 = 0 := by
    rw [newE_eq, if_pos]
    unfold possibleB
    simp only [decide_eq_true_eq]
    omega
  have hnc : checkE ⟨(s : Int), (o : Int), 2, List.replicate n empty⟩ = 0 := by
    have h := hne
    unfold newE newD at h
    rw [if_neg (by omega), Int.toNat_natCast] at h
    exact h
  have hnew : ∀ W, Calls Try.prog 13 #[.int .i64 (n : Int), .int .i64 (s : Int), .int .i64 (o : Int), .int .i64 2] W fun e w' => ∃ a cap, e = .returned (.tuple #[.agg #[.int .i64 (s : Int), .int .i64 (o : Int), .int .i64 2, .slice a n cap], .int .i64 0]) ∧ ZonesIn w' (Plus (fun _ => False) W.heap.size) a n cap (List.replicate n empty) ∧ Below W.heap.size W w' := fun W => by
    have h := refNew_any (n : Int) (s : Int) (o : Int) 2 W
    have hr : newR (n : Int) (s : Int) (o : Int) 2 = ⟨(s : Int), (o : Int), 2, List.replicate n empty⟩ := by
      unfold newR newD
      rw [if_pos hne, Int.toNat_natCast]
    rw [hr, hne, if_pos rfl, Int.toNat_natCast] at h
    exact h
  have hv1 : nxt zs 0 4 = (v1 : Int) := by simpa using hv1
  have hv2 : nxt zs (stp zs 0) 3 = (v2 : Int) := by simpa using hv2
  have hv3 : nxt zs (stp zs (stp zs 0)) 2 = (v3 : Int) := by simpa using hv3
  have hN : ∀ W base g k (m : Int), Dice W base g zs k → 1 ≤ m → m ≤ 1000 → Calls Try.prog 40 #[.pointer (some ⟨g, 0, none⟩), .int .i64 m] W (NextPost W base g zs k m) := fun W base g k m h h1 h2 => next_any W base g zs k m h (by omega) (by omega) (by omega)
  have hn25 : 2 ≤ n ∧ n ≤ 5 := by omega
  have HR := Lib.hid hro
  have HN := Lib.hid hN
  have HW := Lib.hid hnew
  have HV1 := Lib.hid hv1
  have HV2 := Lib.hid hv2
  have HV3 := Lib.hid hv3
  have HC := Lib.hid hnc
  have HA := Lib.hid hA
  clear hro hN hnew hv1 hv2 hv3 hnc hA hne hrow hn hs ho hb1 hb2 hb3
  unfold DevMade
  go_enter Try.func16, Try.ntmps16
  go_wp2_with (first
    | (go_at_call 39; ((with_reducible refine HR.out.mono ?_); rintro e w1 ⟨g, rfl, hd1, hb1⟩; have hg0 : w.heap.size < g := (by have h := dice_base hd1; rw [World.size_alloc] at h; omega); have hr1 := row_on hb1 (heap_alloc_new w _) (by simp); have b1 := HA.out.trans (hb1.mono (by simp))))
    | (go_at_call 40; ((with_reducible refine (HN.out _ _ g 0 4 hd1 (by decide) (by decide)).mono ?_); rintro e w2 ⟨rfl, hd2, hg2, hs2⟩; rw [HV1.out]; have hr2 := row_grown hg2 hr1 (by omega); have b2 := below_of_grown b1 hg2 (by omega) b1.size))
    | (go_at_call 40; ((with_reducible refine (HN.out _ _ g (stp zs 0) 3 hd2 (by decide) (by decide)).mono ?_); rintro e w3 ⟨rfl, hd3, hg3, hs3⟩; rw [HV2.out]; have hr3 := row_grown hg3 hr2 (by omega); have b3 := below_of_grown b2 hg3 (by omega) b2.size))
    | (go_at_call 40; ((with_reducible refine (HN.out _ _ g (stp zs (stp zs 0)) 2 hd3 (by decide) (by decide)).mono ?_); rintro e w4 ⟨rfl, hd4, hg4, hs4⟩; rw [HV3.out]; have hr4 := row_grown hg4 hr3 (by omega); have b4 := below_of_grown b3 hg4 (by omega) b3.size))
    | (go_at_call 13; ((with_reducible refine (HW.out _).mono ?_); rintro e w5 ⟨a5, c5, rfl, hz5, hb5⟩; have hr5 := row_al (row_on hb5 hr4 (lt_of_block hr4)) (devRow (s : Int) (o : Int) 2 a5 n c5); have hx5 := heap_alloc_new w5 (devRow (s : Int) (o : Int) 2 a5 n c5); have b5 := b4.trans (hb5.mono b4.size); have b5' := b5.alloc b5.size (devRow (s : Int) (o : Int) 2 a5 n c5); have hd5 := dice_alloc (dice_on hd4 hb5 (Nat.le_refl _)) (devRow (s : Int) (o : Int) 2 a5 n c5); have hg5 := dice_lt (dice_on hd4 hb5 (Nat.le_refl _)); have hg4' := dice_lt hd4; have n4 := lt_of_block hr4; have hz5' := hz5.cut.on (Agree.below ((Below.refl _ _).alloc (Nat.le_refl _) (devRow (s : Int) (o : Int) 2 a5 n c5))))))
  obtain ⟨X, hX⟩ : ∃ X, X = w5.heap.size := ⟨_, rfl⟩
  rw [← hX] at hx5
  have hzl0 : 0 ≤ zs.length := Nat.zero_le _
  have hst3 : stp3 zs 0 ≤ zs.length := stp3_end hzl0
  have hXg : g < X := by omega
  have hXw : w.heap.size < X := by omega
  have hcmd : ∀ F D a cap k W, (∀ b, F b → b < W.heap.size) → ¬ F g → ZonesIn W F a n cap D.zones → checkE D = 0 → Dice W (w.alloc (devRow 0 0 0 none 0 0)).heap.size g zs k → k < zs.length → Calls Try.prog 42 #[.pointer (some ⟨g, 0, none⟩), .agg #[.int .i64 D.size, .int .i64 D.maxOpen, .int .i64 D.maxActive, .slice a n cap], .int .i64 (n : Int)] W (CmdPost W F (w.alloc (devRow 0 0 0 none 0 0)).heap.size g zs k n) := fun F D a cap k W h1 h2 h3 h4 h5 h6 => command_any F D a n cap _ g zs k W h1 h2 h3 (by omega) (by omega) h4 h5 (by omega) h6
  unfold CmdPost at hcmd
  have HCM := Lib.hid hcmd
  have hrs : ∀ k W M, Dice W (w.alloc (devRow 0 0 0 none 0 0)).heap.size g zs k → k ≤ zs.length → zs.length - k = M → Calls Try.prog 41 #[.pointer (some ⟨g, 0, none⟩)] W fun e w' => e = .returned (.int .i64 (M : Int)) ∧ Dice w' (w.alloc (devRow 0 0 0 none 0 0)).heap.size g zs k ∧ W.grownBy w' (some g) ∧ w'.heap.size = W.heap.size := fun k W M h1 h2 h3 => by
    have := rest_any W _ g zs k h1 (by omega) h2
    rw [h3] at this
    exact this
  have HRS := Lib.hid hrs
  clear hcmd hrs
  rw [← hX]
  have HX := Lib.hid hX
  clear hX
  generalize hW5 : w5.alloc (devRow (s : Int) (o : Int) 2 a5 n c5) = w6 at *
  go_loopw [] (fun wr => ∃ (k : Nat) (D : Dev) (a : Option Addr) (cap : Nat), k ≤ zs.length ∧ Dice wr (w.alloc (devRow 0 0 0 none 0 0)).heap.size g zs k ∧ wr.heap[X]? = some (devRow D.size D.maxOpen D.maxActive a n cap) ∧ wr.heap[w.heap.size]? = some (devRow 0 0 0 none 0 0) ∧ ZonesIn wr (fun b => w.heap.size ≤ b ∧ b < wr.heap.size ∧ b ≠ g ∧ b ≠ X ∧ b ≠ w.heap.size) a n cap D.zones ∧ checkE D = 0 ∧ Below w.heap.size w wr) (fun wr => zs.length - (intOf ((wr.cell? ⟨g, 1, none⟩).getD undef)).toNat)
  case atStart =>
    refine ⟨_, ⟨(s : Int), (o : Int), 2, List.replicate n empty⟩, a5, c5, hst3, hd5, hx5, hr5, hz5'.mono ?_, HC.out, b5'⟩
    rintro b hb ⟨h | h, h2⟩
    · exact h.elim
    · have hX := HX.out
      exact ⟨by omega, hb, by omega, by omega, by omega⟩
  case round =>
    obtain ⟨k, D, a, cap, hk, hdd, hx, hr, hz, hc, hb⟩ := hrel
    obtain ⟨ds, do', da, DZ⟩ := D
    try simp only at hx hz
    have hgl := dice_lt hdd
    have hgr := lt_of_block hx
    by_cases hlt : k < zs.length
    · obtain ⟨M, hM⟩ : ∃ M, zs.length - k = M := ⟨_, rfl⟩
      have hM0 : 0 < M := by omega
      have hM1 : (0 : Int) < (M : Int) := by omega
      have hcell := dice_cell hdd
      have HM := Lib.hid hM
      clear hM
      go_wp2_with (first
        | (go_at_call 41; ((with_reducible refine (HRS.out k _ M hdd hk HM.out).mono ?_); rintro e w7 ⟨rfl, hd7, hg7, hs7⟩; have hx7 := row_grown hg7 hx (by omega); have hr7 := row_grown hg7 hr (by omega); have hz7 := hz.on (agree_grown hg7 (fun h => h.2.2.1 rfl)); have b7 := below_of_grown hb hg7 (by omega) hb.size; obtain ⟨y7, d0, d1, d2, d3⟩ := row4 hx7))
        | (go_at_call 42; have hFb : ∀ b, (fun b => w.heap.size ≤ b ∧ b < wr.heap.size ∧ b ≠ g ∧ b ≠ X ∧ b ≠ w.heap.size) b → b < w7.heap.size := (fun b h => by have := h.2.1; omega); have hFg : ¬ (fun b => w.heap.size ≤ b ∧ b < wr.heap.size ∧ b ≠ g ∧ b ≠ X ∧ b ≠ w.heap.size) g := (fun h => h.2.2.1 rfl); ((with_reducible refine (HCM.out (fun b => w.heap.size ≤ b ∧ b < wr.heap.size ∧ b ≠ g ∧ b ≠ X ∧ b ≠ w.heap.size) ⟨ds, do', da, DZ⟩ a cap k w7 hFb hFg hz7 hc hd7 hlt).mono ?_); rintro e w8 ⟨⟨es, eo, ea, EZ⟩, a8, cap8, k8, rfl, hz8, hc8, hk8, hk8', hd8, hg8⟩; have hx8 := row_grown hg8 hx7 (by omega); have hr8 := row_grown hg8 hr7 (by omega); have b8 := below_of_grown b7 hg8 (by omega) b7.size; have n8 := lt_of_block hx8))
        | ((with_reducible refine Plan.store_lit 24 (.tmp 5) _ X ?_ hx8 ?_ ?_ ?_ ?_ ?_ ?_); rotate_left; (· rfl); (· rfl); (· exact dev_info); (· rfl); (· simp [Value.oneCell']); simp only [Act.put]))
      have hd9 := dice_far hd8 (grownBy_setRow w8 X #[.int .i64 es, .int .i64 eo, .int .i64 ea, .slice a8 n cap8]) hXg
      have hz9 := hz8.on (Agree.row (r := X) (by rintro (h | h); (· exact h.2.2.2.1 rfl); (· omega)) #[.int .i64 es, .int .i64 eo, .int .i64 ea, .slice a8 n cap8])
      have hr9 := (setRow_other w8 X w.heap.size #[.int .i64 es, .int .i64 eo, .int .i64 ea, .slice a8 n cap8] (by omega)).trans hr8
      have b9 := below_setRow b8 (show w.heap.size ≤ X by omega) #[.int .i64 es, .int .i64 eo, .int .i64 ea, .slice a8 n cap8]
      have hx9 := setRow_heap w8 X _ #[.int .i64 es, .int .i64 eo, .int .i64 ea, .slice a8 n cap8] _ _ hx8
      have hcell9 := dice_cell hd9
      have n7 := b7.size
      go_roundw
      case rel =>
        refine ⟨k8, ⟨es, eo, ea, EZ⟩, a8, cap8, hk8', hd9, hx9, hr9, hz9.mono ?_, hc8, b9⟩
        rintro b hb9 (h | h)
        · exact ⟨h.1, hb9, h.2.2.1, h.2.2.2.1, h.2.2.2.2⟩
        · exact ⟨by omega, hb9, by omega, by omega, by omega⟩
      case measure =>
        rw [hcell9, hcell]
        simp [intOf]
        omega
    · obtain rfl : k = zs.length := by omega
      have hM : zs.length - zs.length = 0 := Nat.sub_self _
      have HM := Lib.hid hM
      clear hM
      go_wp2_with (first
        | (go_at_call 41; ((with_reducible refine (HRS.out zs.length _ 0 hdd hk HM.out).mono ?_); rintro e w7 ⟨rfl, hd7, hg7, hs7⟩; have hx7 := row_grown hg7 hx (by omega); have hr7 := row_grown hg7 hr (by omega); have hz7 := hz.on (agree_grown hg7 (fun h => h.2.2.1 rfl)); have b7 := below_of_grown hb hg7 (by omega) hb.size; obtain ⟨y7, d0, d1, d2, d3⟩ := row4 hx7))
        | ((with_reducible refine Plan.store_lit 24 (.tmp 2) _ w.heap.size ?_ hr7 ?_ ?_ ?_ ?_ ?_ ?_); rotate_left; (· rfl); (· rfl); (· exact dev_info); (· rfl); (· simp [Value.oneCell']); simp only [Act.put]))
      have b8 := below_setRow b7 (Nat.le_refl _) #[.int .i64 ds, .int .i64 do', .int .i64 da, .slice a n cap]
      have hz8 := hz7.on (Agree.row (r := w.heap.size) (fun h => h.2.2.2.2 rfl) #[.int .i64 ds, .int .i64 do', .int .i64 da, .slice a n cap])
      exact bodyPost_ret (results_cell_row rfl _ _ _ _ _ _ _ rfl (setRow_heap _ _ _ _ _ _ hr7) Try.underlying24 rfl dev_info) rfl ⟨⟨ds, do', da, DZ⟩, a, n, cap, rfl, hz8.mono (fun _ _ h => h.1), hc, hn25.1, hn25.2, b8⟩
end Go.Proofs.Ytlmlmgegnnikeaa

/- The walk of the law that the program answers as the document's own for devices that the maker makes, whole and spoilt. -/
namespace Go.Proofs.Ytlmlmgegnnikeaa
open Go.RowKit Plan ZnsMath

theorem made_sector : ∃ S : ByteArray, ∀ W, Calls Try.prog 17 #[.agg #[.int .i64 2, .int .i64 0, .int .i64 3, .int .i64 0, .string ⟨#[]⟩]] W fun e w' => e = .returned (.string S) ∧ Below W.heap.size W w' :=
  ⟨_, fun W => sector_made 2 0 3 0 ⟨#[]⟩ W⟩
set_option maxHeartbeats 2000000 in
set_option maxRecDepth 20000 in
theorem made_go (a0 : Option Addr) (l0 c0 : Nat) (zs : List Int) (p1 p2 p3 p4 : Int) (w : World) (h0 : IsRow .i64 w a0 l0 c0 zs) (hl0 : l0 ≤ 300) :
    Calls Try.prog 5 #[.slice a0 l0 c0, .int .i64 p1, .int .i64 p2, .int .i64 p3, .int .i64 p4] w fun e w' => e = .returned (.bool true) ∧ Below w.heap.size w w' := by
  have hlg := light_any a0 l0 c0 w
  have hdv := device_any a0 l0 c0 zs w h0 hl0
  unfold DevMade at hdv
  have e1 : decide ((l0 : Int) ≤ 300) = true := decide_eq_true (by omega)
  rw [e1] at hlg
  obtain ⟨S, hS⟩ := made_sector
  have hm6 := fun W => mod_any p2 6 (by decide) (by decide) W
  generalize p2 % 6 = m6 at hm6
  have HL := Lib.hid hlg
  have HD := Lib.hid hdv
  have HS := Lib.hid hS
  have H6 := Lib.hid hm6
  clear hlg hdv h0 e1 hS hm6
  go_enter Try.func5, Try.ntmps5
  go_wp2_with (first
    | (go_at_call 15; ((with_reducible refine (HL.out).mono ?_); rintro e w1 ⟨rfl, rfl⟩))
    | (go_at_call 16; ((with_reducible refine (HD.out).mono ?_); rintro e w1 ⟨⟨ds, do', da, DZ⟩, a, n, cap, rfl, hz1, hck, hn2, hn5, hb1⟩; have hx1 := heap_alloc_new w1 (devRow ds do' da a n cap); have b1 := hb1.alloc hb1.size (devRow ds do' da a n cap); have hz1' := hz1.is.on ((Below.refl w1.heap.size w1).alloc (Nat.le_refl _) (devRow ds do' da a n cap)) (Nat.le_refl _); obtain ⟨y1, d0, d1, d2, d3⟩ := row4 hx1; have hnI : (1 : Int) ≤ (n : Int) := (by omega); have hm1 := fun W => mod_any p1 (n : Int) (by omega) (by omega) W; generalize p1 % (n : Int) = m1 at hm1; have H1 := Lib.hid hm1; clear hm1))
    | (go_at_call 17; ((with_reducible refine (HS.out _).mono ?_); rintro e w2 ⟨rfl, hb2⟩; have hx2 := row_on hb2 hx1 (lt_of_block hx1); have b2 := b1.trans (hb2.mono b1.size); have hz2 := hz1'.on hb2 (Nat.le_refl _); clear d0 d1 d2 d3; obtain ⟨y2, d0, d1, d2, d3⟩ := row4 hx2))
    | (go_at_call 18; ((with_reducible refine (H1.out _).mono ?_); rintro e wk ⟨rfl, rfl⟩)))
  have hx3 : w2.drew.heap[w1.heap.size]? = some (devRow ds do' da a n cap) := hx2
  have b3 := b2.drew
  have hz3 := hz2.on (Below.refl w2.heap.size w2).drew (Nat.le_refl _)
  refine Plan.start (fun W => DevAt W w1.heap.size ds do' da a n cap) [(0, true), (1, true), (2, true), (4, true), (3, false), (5, false), (6, true), (7, true), (8, true), (9, true), (10, true), (12, true), (13, true), (14, true), (11, false), (15, false), (16, true), (17, true), (18, false), (19, true), (20, true)] (by kernel_rfl) (by kernel_rfl) (by kernel_rfl) (by kernel_rfl) (row4 hx2).2 ?_
  simp only [List.map_cons, List.map_nil, List.getElem?_toArray, List.getElem?_cons_zero, List.getElem?_cons_succ]
  generalize w2.drew = w3 at hx3 b3 hz3 ⊢
  repeat (first | (refine Plan.take ?_ (by rfl) ?_ ?_; rotate_left; (· rintro w9 ⟨d0, d1, d2, d3⟩; go_simp; (try rw [if_neg (by omega)]); all_goals (with_reducible rfl)); simp only [Act.put, List.setIfInBounds_toArray, List.set_cons_zero, List.set_cons_succ]) | (refine Plan.pass (by rfl) ?_; simp only [Act.put, List.setIfInBounds_toArray, List.set_cons_zero, List.set_cons_succ]))
  refine Plan.call (by rfl) 18 _ ?_ (H6.out _) ?_
  · go_simp
  rintro e wk ⟨rfl, rfl⟩
  refine ⟨_, rfl, (row4 hx3).2, ?_⟩
  simp only [Act.put, List.setIfInBounds_toArray, List.set_cons_zero, List.set_cons_succ]
  repeat (first | (refine Plan.take ?_ (by rfl) ?_ ?_; rotate_left; (· rintro w9 ⟨d0, d1, d2, d3⟩; go_simp; (try rw [if_neg (by omega)]); all_goals (with_reducible rfl)); simp only [Act.put, List.setIfInBounds_toArray, List.set_cons_zero, List.set_cons_succ]) | (refine Plan.pass (by rfl) ?_; simp only [Act.put, List.setIfInBounds_toArray, List.set_cons_zero, List.set_cons_succ]))
  refine Plan.call (by rfl) 11 _ ?_ (agree_any ⟨ds, do', da, DZ⟩ a n cap m1 m6 S w3 hz3) ?_
  · go_simp
  rintro e w4 ⟨rfl, hb4⟩
  have hx4 := row_on hb4 hx3 (lt_of_block hx3)
  have b4 := b3.trans (hb4.mono b3.size)
  have hz4 := hz3.on hb4 (Nat.le_refl _)
  refine ⟨_, rfl, (row4 hx4).2, ?_⟩
  simp only [Act.put, List.setIfInBounds_toArray, List.set_cons_zero, List.set_cons_succ]
  repeat (first | (refine Plan.take ?_ (by rfl) ?_ ?_; rotate_left; (· rintro w9 ⟨d0, d1, d2, d3⟩; go_simp; (try rw [if_neg (by omega)]); all_goals (with_reducible rfl)); simp only [Act.put, List.setIfInBounds_toArray, List.set_cons_zero, List.set_cons_succ]) | (refine Plan.pass (by rfl) ?_; simp only [Act.put, List.setIfInBounds_toArray, List.set_cons_zero, List.set_cons_succ]))
  refine Plan.call (by rfl) 19 _ ?_ (odd_any ⟨ds, do', da, DZ⟩ a n cap p3 p1 p4 w4 hz4 hck (by omega) (by omega)) ?_
  · go_simp
  rintro e w5 ⟨⟨os, oo, oa, OZ⟩, ao, no, co, rfl, hzo, hb5⟩
  have hx5 := row_on hb5 hx4 (lt_of_block hx4)
  have b5 := b4.trans (hb5.mono b4.size)
  have hz5 := hz4.on hb5 (Nat.le_refl _)
  refine ⟨_, rfl, (row4 hx5).2, ?_⟩
  simp only [Act.put, List.setIfInBounds_toArray, List.set_cons_zero, List.set_cons_succ]
  repeat (first | (refine Plan.take ?_ (by rfl) ?_ ?_; rotate_left; (· rintro w9 ⟨d0, d1, d2, d3⟩; go_simp; (try rw [if_neg (by omega)]); all_goals (with_reducible rfl)); simp only [Act.put, List.setIfInBounds_toArray, List.set_cons_zero, List.set_cons_succ]) | (refine Plan.pass (by rfl) ?_; simp only [Act.put, List.setIfInBounds_toArray, List.set_cons_zero, List.set_cons_succ]))
  refine Plan.call (by rfl) 11 _ ?_ (agree_any ⟨os, oo, oa, OZ⟩ ao no co m1 p2 S w5 hzo) ?_
  · go_simp
  rintro e w6 ⟨rfl, hb6⟩
  have hx6 := row_on hb6 hx5 (lt_of_block hx5)
  have b6 := b5.trans (hb6.mono b5.size)
  have hz6 := hz5.on hb6 (Nat.le_refl _)
  refine ⟨_, rfl, (row4 hx6).2, ?_⟩
  simp only [Act.put, List.setIfInBounds_toArray, List.set_cons_zero, List.set_cons_succ]
  repeat (first | (refine Plan.take ?_ (by rfl) ?_ ?_; rotate_left; (· rintro w9 ⟨d0, d1, d2, d3⟩; go_simp; (try rw [if_neg (by omega)]); all_goals (with_reducible rfl)); simp only [Act.put, List.setIfInBounds_toArray, List.set_cons_zero, List.set_cons_succ]) | (refine Plan.pass (by rfl) ?_; simp only [Act.put, List.setIfInBounds_toArray, List.set_cons_zero, List.set_cons_succ]))
  refine Plan.call (by rfl) 10 _ ?_ (awake_zns _) ?_
  · go_simp
  rintro e w7 ⟨rfl, hb7⟩
  have hx7 := row_on hb7 hx6 (lt_of_block hx6)
  have b7 := b6.trans (hb7.mono b6.size)
  have hz7 := hz6.on hb7 (Nat.le_refl _)
  refine ⟨_, rfl, (row4 hx7).2, ?_⟩
  simp only [Act.put, List.setIfInBounds_toArray, List.set_cons_zero, List.set_cons_succ]
  repeat (first | (refine Plan.take ?_ (by rfl) ?_ ?_; rotate_left; (· rintro w9 ⟨d0, d1, d2, d3⟩; go_simp; (try rw [if_neg (by omega)]); all_goals (with_reducible rfl)); simp only [Act.put, List.setIfInBounds_toArray, List.set_cons_zero, List.set_cons_succ]) | (refine Plan.pass (by rfl) ?_; simp only [Act.put, List.setIfInBounds_toArray, List.set_cons_zero, List.set_cons_succ]))
  refine Plan.ends ?_
  go_wp2_with fail
  go_ret
  exact ⟨rfl, b7⟩
set_option maxHeartbeats 2000000 in
set_option maxRecDepth 20000 in
theorem made_no (a0 : Option Addr) (l0 c0 : Nat) (p1 p2 p3 p4 : Int) (w : World) (h : ¬ l0 ≤ 300) :
    Calls Try.prog 5 #[.slice a0 l0 c0, .int .i64 p1, .int .i64 p2, .int .i64 p3, .int .i64 p4] w fun e w' => e = .returned (.bool true) ∧ Below w.heap.size w w' := by
  have hlg := light_any a0 l0 c0 w
  have haw := awake_zns
  have e1 : decide ((l0 : Int) ≤ 300) = false := decide_eq_false (by omega)
  rw [e1] at hlg
  have HL := Lib.hid hlg
  have HAW := Lib.hid haw
  clear haw hlg e1
  go_enter Try.func5, Try.ntmps5
  go_wp2_with (first
    | (go_at_call 15; ((with_reducible refine (HL.out).mono ?_); rintro e w1 ⟨rfl, rfl⟩))
    | (go_at_call 10; ((with_reducible refine (HAW.out _).mono ?_); rintro e w7 ⟨rfl, hb7⟩)))
  go_ret
  exact ⟨rfl, hb7⟩
theorem made_all (a0 : Option Addr) (l0 c0 : Nat) (zs : List Int) (p1 p2 p3 p4 : Int) (w : World) (h0 : IsRow .i64 w a0 l0 c0 zs) :
    Calls Try.prog 5 #[.slice a0 l0 c0, .int .i64 p1, .int .i64 p2, .int .i64 p3, .int .i64 p4] w fun e w' => e = .returned (.bool true) ∧ Below w.heap.size w w' := by
  by_cases h : l0 ≤ 300
  · exact made_go a0 l0 c0 zs p1 p2 p3 p4 w h0 h
  · exact made_no a0 l0 c0 p1 p2 p3 p4 w h
end Go.Proofs.Ytlmlmgegnnikeaa

/- ZnsMade: the program answers as the document for the devices that the maker makes, whole and spoilt. No condition. -/
namespace Go.Proofs.Ytlmlmgegnnikeaa.znsMade
open Go.ChangeShapes Go.WideShapes Go.ChangeAt Go.RowKit
open Go.ChangeMaps (open_string shut_string)
set_option linter.unusedVariables false

theorem own : ownKnob Try.prog.godebug = none := by kernel_rfl
theorem laidOut : laidOutB Try.prog = true := by kernel_rfl

theorem walk (a0 : Option Addr) (l0 c0 : Nat) (z0 : List Int) (a1 : Int) (w1 : (Lit.int .i64 a1).wf = true) (a2 : Int) (w2 : (Lit.int .i64 a2).wf = true) (a3 : Int) (w3 : (Lit.int .i64 a3).wf = true) (a4 : Int) (w4 : (Lit.int .i64 a4).wf = true) (w : World) (w0 : IsRow .i64 w a0 l0 c0 z0) :
    Calls Try.prog 5 #[.slice a0 l0 c0, .int .i64 a1, .int .i64 a2, .int .i64 a3, .int .i64 a4] w fun e w' => e = .returned (.bool true) ∧ Below w.heap.size w w' := by
  exact made_all a0 l0 c0 z0 a1 a2 a3 a4 w w0

set_option maxRecDepth 100000 in
theorem lifted (os : Os) (started : os.Started) (H : Type) (enc : TypeId × Value → H) :
    ReturnsInHanded {} Try.checked os 5 .any (Rows.znsMadeSpec.pre6 enc Try.prog Try.f5 Rows.znsMadeRow.domain false) (Rows.znsMadeSpec.post enc Try.prog Try.f5 false true false false) := by
  refine returnsInHanded_of_change (C := Try.checked) own started (by kernel_rfl) Try.func5
    (ChangeSpec.witness6 (enc := enc) (C := Try.checked) false ⟨#[], #[.slice none 0 0, .int .i64 0, .int .i64 0, .int .i64 0, .int .i64 0], []⟩ 8 (by kernel_rfl) (by kernel_rfl) (by kernel_rfl) (by kernel_rfl)) ?_
  intro W base args ds gs before hval0 hW hcnd _
  have hval : ∀ (j : Nat) t v, Try.f5.params[j]? = some t → args[j]? = some v → Value.okWide Try.prog W .any base t v := hval0
  have hW' := hW
  obtain ⟨p, q, hA0, hV, rfl, hfz, hnd⟩ := hW
  have hA : DataW.TrodAll enc Try.prog W 0 (fun _ => true) true Try.f5.params.toList args.toList ds p := hA0
  rw [Try.params5] at hA hval
  obtain ⟨v0, vs0, d0, ds0, p0, q0, hargs, rfl, rfl, h0, r0⟩ := trodAll_cons hA
  obtain ⟨v1, vs1, d1, ds1, p1, q1, rfl, rfl, rfl, h1, r1⟩ := trodAll_cons r0
  obtain ⟨v2, vs2, d2, ds2, p2, q2, rfl, rfl, rfl, h2, r2⟩ := trodAll_cons r1
  obtain ⟨v3, vs3, d3, ds3, p3, q3, rfl, rfl, rfl, h3, r3⟩ := trodAll_cons r2
  obtain ⟨v4, vs4, d4, ds4, p4, q4, rfl, rfl, rfl, h4, r4⟩ := trodAll_cons r3
  obtain ⟨rfl, rfl, rfl⟩ := trodAll_nil r4
  obtain rfl : args = #[v0, v1, v2, v3, v4] := by cases args; simp_all
  obtain ⟨rfl, rfl⟩ := trodVars_none hV
  have k0' := h0
  have lt0 : ∀ x ∈ p0, x.block < W.heap.size := by obtain ⟨m, hm⟩ := h0; exact DataW.trod_lt m _ _ _ hm
  have k1' := h1
  have lt1 : ∀ x ∈ p1, x.block < W.heap.size := by obtain ⟨m, hm⟩ := h1; exact DataW.trod_lt m _ _ _ hm
  have k2' := h2
  have lt2 : ∀ x ∈ p2, x.block < W.heap.size := by obtain ⟨m, hm⟩ := h2; exact DataW.trod_lt m _ _ _ hm
  have k3' := h3
  have lt3 : ∀ x ∈ p3, x.block < W.heap.size := by obtain ⟨m, hm⟩ := h3; exact DataW.trod_lt m _ _ _ hm
  have k4' := h4
  have lt4 : ∀ x ∈ p4, x.block < W.heap.size := by obtain ⟨m, hm⟩ := h4; exact DataW.trod_lt m _ _ _ hm
  obtain ⟨a0, l0, c0, rfl⟩ := okWide_slice Try.underlying33 (hval 0 33 v0 rfl rfl)
  obtain ⟨z0, w0⟩ : ∃ zs, IsRow .i64 W a0 l0 c0 zs := by
    obtain ⟨fuel, hf⟩ := h0
    rcases open_ints Try.underlying33 Try.underlying3 (by kernel_rfl) hf with ⟨hcs, _⟩ | ⟨x, l, c, zs, hcs, _, hl, hm, hz, _, hcell, hwz⟩
    · simp [Value.cells] at hcs
      obtain ⟨rfl, rfl, rfl⟩ := hcs
      exact ⟨[], .inl ⟨rfl, rfl, rfl, rfl⟩⟩
    · simp [Value.cells] at hcs
      obtain ⟨rfl, rfl, rfl⟩ := hcs
      exact ⟨zs, .inr ⟨_, rfl, hl, hm, by simpa using hz, hcell, hwz⟩⟩
  obtain ⟨a1, rfl, _, _, w1⟩ := open_int Try.underlying3 (hval 1 3 v1 rfl rfl) h1
  obtain ⟨a2, rfl, _, _, w2⟩ := open_int Try.underlying3 (hval 2 3 v2 rfl rfl) h2
  obtain ⟨a3, rfl, _, _, w3⟩ := open_int Try.underlying3 (hval 3 3 v3 rfl rfl) h3
  obtain ⟨a4, rfl, _, _, w4⟩ := open_int Try.underlying3 (hval 4 3 v4 rfl rfl) h4
  clear hA0 hval0
  refine (walk a0 l0 c0 z0 a1 w1 a2 w2 a3 w3 a4 w4 W w0).mono fun e W' ⟨he, bel⟩ => ?_
  subst he
  exact ⟨_, rfl, _, _, _, [], _, [], hW', trodAll_mk1 (shut_bool Try.underlying4 _), (trodAll_cons_mk (Below.trod laidOut (by kernel_rfl) (of_decide_eq_true (by kernel_rfl)) k0' bel lt0) (trodAll_cons_mk (Below.trod laidOut (by kernel_rfl) (of_decide_eq_true (by kernel_rfl)) k1' bel lt1) (trodAll_cons_mk (Below.trod laidOut (by kernel_rfl) (of_decide_eq_true (by kernel_rfl)) k2' bel lt2) (trodAll_cons_mk (Below.trod laidOut (by kernel_rfl) (of_decide_eq_true (by kernel_rfl)) k3' bel lt3) (trodAll_cons_mk (Below.trod laidOut (by kernel_rfl) (of_decide_eq_true (by kernel_rfl)) k4' bel lt4) trodAll_mk0))))), rfl, bel.frame _, fun h => by cases h⟩

theorem over : Rows.znsMadeRow.holds Try.pinned (OpenSpec.ofChange Rows.znsMadeSpec) :=
  OpenClaim.holds_of_wide 5 Try.f5 rfl rfl rfl rfl rfl rfl rfl ⟨rfl, rfl, rfl, rfl, rfl⟩ rfl rfl rfl rfl rfl (by kernel_rfl) Try.func5 (by kernel_rfl)
    (of_decide_eq_true (by kernel_rfl)) (by unfold Func.isWrapper; first | (rw [if_pos (by decide +kernel)]; kernel_rfl) | (rw [if_neg (by decide +kernel)]; exact ⟨rfl, rfl⟩))
    (fun os started H enc _ => lifted os started H enc)
end Go.Proofs.Ytlmlmgegnnikeaa.znsMade

namespace Go.Proofs.Ytlmlmgegnnikeaa
theorem znsMade_holds : Rows.ZnsMadeSaid := znsMade.over
end Go.Proofs.Ytlmlmgegnnikeaa
