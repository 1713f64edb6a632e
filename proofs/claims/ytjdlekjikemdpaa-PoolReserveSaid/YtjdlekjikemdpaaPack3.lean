/- Texts that belong together, part 3. -/
import Derived.Test.YtjdlekjikemdpaaPack2

/- Configurations and layouts as numbers: what layer 7 of the document says of them. Plain mathematics. -/
namespace Go.Proofs.Ytjdlekjikemdpaa.LayMath
/-- are the six numbers in their ranges -/
def inR (z s b q d h : Int) : Bool :=
  decide (3 ≤ s) && decide (s ≤ 64) && decide (1 ≤ z) && decide (z ≤ 32) && decide (1 ≤ b) && decide (b ≤ 128) &&
    decide (1 ≤ q) && decide (q ≤ 4) && decide (1 ≤ d) && decide (d ≤ 8) && decide (1 ≤ h) && decide (h ≤ 8)
/-- the zones of a slot -/
def slotN (s b : Int) : Int := (b + 2 + s - 1) / s
/-- the data zones -/
def dataN (z s b : Int) : Int := z - 2 * slotN s b
/-- the capacity -/
def capN (z s b q : Int) : Int := (dataN z s b - 3) * (s - 1) - q - 1
/-- is there enough for data -/
def fits (z s b q : Int) : Bool := !(decide (dataN z s b < 6) || decide (capN z s b q < 1))
/-- the error of a configuration -/
def errN (z s b q d h : Int) : Int := if inR z s b q d h = true then (if fits z s b q = true then 0 else 11) else 1
theorem errN_out {z s b q d h : Int} (hr : inR z s b q d h = false) : errN z s b q d h = 1 := by simp [errN, hr]
theorem errN_tight {z s b q d h : Int} (hr : inR z s b q d h = true) (hf : fits z s b q = false) : errN z s b q d h = 11 := by simp [errN, hr, hf]
theorem errN_fit {z s b q d h : Int} (hr : inR z s b q d h = true) (hf : fits z s b q = true) : errN z s b q d h = 0 := by simp [errN, hr, hf]
theorem errN_zero {z s b q d h : Int} (he : errN z s b q d h = 0) : inR z s b q d h = true ∧ fits z s b q = true := by
  unfold errN at he
  split at he
  · split at he
    · exact ⟨by assumption, by assumption⟩
    · cases he
  · cases he
theorem inR_iff {z s b q d h : Int} : inR z s b q d h = true ↔ 3 ≤ s ∧ s ≤ 64 ∧ 1 ≤ z ∧ z ≤ 32 ∧ 1 ≤ b ∧ b ≤ 128 ∧ 1 ≤ q ∧ q ≤ 4 ∧ 1 ≤ d ∧ d ≤ 8 ∧ 1 ≤ h ∧ h ≤ 8 := by
  simp [inR, Bool.and_eq_true, and_assoc]
theorem inR_not {z s b q d h : Int} (hn : ¬ (3 ≤ s ∧ s ≤ 64 ∧ 1 ≤ z ∧ z ≤ 32 ∧ 1 ≤ b ∧ b ≤ 128 ∧ 1 ≤ q ∧ q ≤ 4 ∧ 1 ≤ d ∧ d ≤ 8 ∧ 1 ≤ h ∧ h ≤ 8)) : inR z s b q d h = false := by
  cases hE : inR z s b q d h
  · rfl
  · exact absurd (inR_iff.1 hE) hn
theorem slot_bounds {s b : Int} (hs : 3 ≤ s) (h2 : s ≤ 64) (hb : 1 ≤ b) (hb2 : b ≤ 128) : 1 ≤ slotN s b ∧ slotN s b ≤ 64 := by
  unfold slotN
  constructor
  · exact (Int.le_ediv_iff_mul_le (by omega)).2 (by omega)
  · have h1 : (b + 2 + s - 1) / s < 65 := (Int.ediv_lt_iff_lt_mul (by omega)).2 (by omega)
    omega
theorem cap_bounds {z s b : Int} (hs : 3 ≤ s) (h2 : s ≤ 64) (hb : 1 ≤ b) (hb2 : b ≤ 128) (hz : 1 ≤ z) (hz2 : z ≤ 32) :
    (-130 ≤ dataN z s b - 3 ∧ dataN z s b - 3 ≤ 29) ∧ (-8190 ≤ (dataN z s b - 3) * (s - 1) ∧ (dataN z s b - 3) * (s - 1) ≤ 1827) := by
  obtain ⟨l1, l2⟩ := slot_bounds hs h2 hb hb2
  unfold dataN
  generalize slotN s b = k at l1 l2 ⊢
  refine ⟨by omega, ?_⟩
  have h1 : (z - 2 * k - 3) * (s - 1) ≤ 29 * (s - 1) := Int.mul_le_mul_of_nonneg_right (by omega) (by omega)
  have h3 : -130 * (s - 1) ≤ (z - 2 * k - 3) * (s - 1) := Int.mul_le_mul_of_nonneg_right (by omega) (by omega)
  omega
theorem slot_room {s b : Int} (hs : 3 ≤ s) : b + 2 ≤ slotN s b * s := by
  unfold slotN
  have h1 := Int.ediv_mul_add_emod (b + 2 + s - 1) s
  have h2 := Int.emod_lt_of_pos (b + 2 + s - 1) (b := s) (by omega)
  have h3 := Int.emod_nonneg (b + 2 + s - 1) (b := s) (by omega)
  omega
/-- the numbers P, P + 1, .. -/
def upto (P : Int) (n : Nat) : List Int := (List.range n).map fun (i : Nat) => P + (i : Int)
/-- the zones of a slot, as a list -/
def slotsL (z s b q d h k : Int) : List Int := if errN z s b q d h = 0 ∧ (k = 0 ∨ k = 1) then upto (k * slotN s b) (slotN s b).toNat else []
theorem slotsL_no {z s b q d h k : Int} (hk : ¬ errN z s b q d h = 0 ∨ ¬ (k = 0 ∨ k = 1)) : slotsL z s b q d h k = [] := by
  unfold slotsL; rw [if_neg (fun h => hk.elim (fun e => e h.1) (fun e => e h.2))]
theorem slotsL_yes {z s b q d h k : Int} {n : Nat} (he : errN z s b q d h = 0) (hk : k = 0 ∨ k = 1) (hn : slotN s b = n) : slotsL z s b q d h k = upto (k * (n : Int)) n := by
  unfold slotsL; rw [if_pos ⟨he, hk⟩, hn, Int.toNat_natCast]
end Go.Proofs.Ytjdlekjikemdpaa.LayMath

/- Pools of free zones: valid pools stay valid, and what the host and the cleaner take. Plain mathematics. -/
namespace Go.Proofs.Ytjdlekjikemdpaa.PoolMath
open LayMath
/-- data zones that ascend strictly -/
def Asc (D : Int → Bool) (L : List Int) : Prop := (∀ x ∈ L, D x = true) ∧ L.Pairwise (· < ·)
theorem asc_of {D : Int → Bool} {L : List Int} (h : freeOk D L L.length = true) : Asc D L := by
  unfold freeOk at h
  rw [List.all_eq_true] at h
  have hs : ∀ i, i < L.length → stepOk D L i = true := fun i hi => h i (List.mem_range.2 hi)
  have hd : ∀ x ∈ L, D x = true := fun x hx => by
    obtain ⟨i, hi⟩ := List.mem_iff_getElem?.1 hx
    have hl := (List.getElem?_eq_some_iff.1 hi).1
    have h1 := hs i hl
    unfold stepOk at h1
    rw [getD_of hi, Bool.and_eq_true] at h1
    exact h1.1
  refine ⟨hd, List.pairwise_iff_getElem.2 ?_⟩
  have key : ∀ (d i j : Nat) (hi : i < L.length) (hj : j < L.length), j = i + d + 1 → L[i] < L[j] := by
    intro d
    induction d with
    | zero =>
      intro i j hi hj he
      subst he
      have h1 := hs (i + 0 + 1) hj
      rw [step_next (List.getElem?_eq_getElem hi) (List.getElem?_eq_getElem hj), Bool.and_eq_true, decide_eq_true_eq] at h1
      exact h1.2
    | succ d ih =>
      intro i j hi hj he
      subst he
      have h1 := ih i (i + d + 1) hi (by omega) rfl
      have h2 := hs (i + (d + 1) + 1) hj
      rw [step_next (List.getElem?_eq_getElem (show i + (d + 1) < L.length by omega)) (List.getElem?_eq_getElem hj), Bool.and_eq_true, decide_eq_true_eq] at h2
      exact Int.lt_trans h1 h2.2
  intro i j hi hj hij
  exact key (j - i - 1) i j hi hj (by omega)
theorem free_of {D : Int → Bool} {L : List Int} (h : Asc D L) : freeOk D L L.length = true := by
  unfold freeOk
  rw [List.all_eq_true]
  intro i hi
  have hl := List.mem_range.1 hi
  cases i with
  | zero => rw [step_zero (List.getElem?_eq_getElem hl)]; exact h.1 _ (List.getElem_mem hl)
  | succ i =>
    rw [step_next (List.getElem?_eq_getElem (by omega)) (List.getElem?_eq_getElem hl), Bool.and_eq_true, decide_eq_true_eq]
    exact ⟨h.1 _ (List.getElem_mem hl), List.pairwise_iff_getElem.1 h.2 i (i + 1) (by omega) hl (by omega)⟩
theorem has_iff {L : List Int} {z : Int} : hasL L z = true ↔ z ∈ L := by
  unfold hasL
  rw [List.any_eq_true]
  constructor
  · rintro ⟨x, hx, he⟩
    have h1 : x = z := by simpa using he
    exact h1 ▸ hx
  · exact fun h => ⟨z, h, by simp⟩
/-- a lane holds nothing, or a data zone that is not free -/
def Lane (D : Int → Bool) (L : List Int) (x : Int) : Prop := x = -1 ∨ (D x = true ∧ x ∉ L)
theorem lane_iff {D : Int → Bool} {L : List Int} {x : Int} : laneOk D L x = true ↔ Lane D L x := by
  unfold laneOk Lane
  rw [Bool.or_eq_true, decide_eq_true_eq, Bool.and_eq_true, Bool.not_eq_true', ← Bool.not_eq_true, has_iff]
theorem valid_iff {D : Int → Bool} {P : Po} : validP true D P = true ↔ Asc D P.free ∧ Lane D P.free P.host ∧ Lane D P.free P.clean ∧ (P.host = -1 ∨ P.host ≠ P.clean) := by
  unfold validP
  rw [Bool.true_and, Bool.and_eq_true, Bool.and_eq_true, Bool.and_eq_true, lane_iff, lane_iff, Bool.or_eq_true, decide_eq_true_eq, Bool.not_eq_true', decide_eq_false_iff_not]
  constructor
  · rintro ⟨⟨⟨h1, h2⟩, h3⟩, h4⟩
    exact ⟨asc_of h1, h2, h3, h4⟩
  · rintro ⟨h1, h2, h3, h4⟩
    exact ⟨⟨⟨free_of h1, h2⟩, h3⟩, h4⟩
theorem lane_mono {D : Int → Bool} {L M : List Int} {x : Int} (h : Lane D L x) (hM : ∀ y ∈ M, y ∈ L) : Lane D M x := h.imp id fun h => ⟨h.1, fun hx => h.2 (hM x hx)⟩
theorem not_none {D : Int → Bool} (hD : D (-1) = false) {y : Int} (h : D y = true) : y ≠ -1 := by
  rintro rfl
  rw [hD] at h
  cases h
theorem host_is {D : Int → Bool} {P : Po} (hb : hostB true D P = true) : ∃ y r, P.free = y :: r ∧ hostP true D P = ⟨r, y, P.clean⟩ ∧ P.host = -1 := by
  have hb2 := hb
  unfold hostB at hb
  rw [Bool.and_eq_true, Bool.and_eq_true, decide_eq_true_eq, decide_eq_true_eq] at hb
  obtain ⟨L, h, k⟩ := P
  cases L with
  | nil => exact absurd hb.2 (by simp)
  | cons y r => exact ⟨y, r, rfl, by unfold hostP; rw [if_pos hb2]; rfl, hb.1.2⟩
theorem clean_is {D : Int → Bool} {P : Po} (hb : cleanB true D P = true) : ∃ y r, P.free = y :: r ∧ cleanP true D P = ⟨r, P.host, y⟩ ∧ P.clean = -1 := by
  have hb2 := hb
  unfold cleanB at hb
  rw [Bool.and_eq_true, Bool.and_eq_true, decide_eq_true_eq, decide_eq_true_eq] at hb
  obtain ⟨L, h, k⟩ := P
  cases L with
  | nil => exact absurd hb.2 (by simp)
  | cons y r => exact ⟨y, r, rfl, by unfold cleanP; rw [if_pos hb2]; rfl, hb.1.2⟩
theorem host_valid {D : Int → Bool} {P : Po} (hD : D (-1) = false) (hv : validP true D P = true) : validP true D (hostP true D P) = true := by
  cases hb : hostB true D P
  · rw [show hostP true D P = P from by unfold hostP; rw [hb]; rfl]; exact hv
  · obtain ⟨y, r, hf, he, _⟩ := host_is hb
    obtain ⟨⟨hA, hp⟩, hh, hc, hn⟩ := valid_iff.1 hv
    rw [hf] at hA hp hc
    rw [he]
    have hy := hA y (List.mem_cons_self ..)
    refine valid_iff.2 ⟨⟨fun x hx => hA x (List.mem_cons_of_mem _ hx), (List.pairwise_cons.1 hp).2⟩, .inr ⟨hy, fun h => ?_⟩, lane_mono hc (fun z hz => List.mem_cons_of_mem _ hz), .inr fun h => ?_⟩
    · exact absurd ((List.pairwise_cons.1 hp).1 y h) (by show ¬ y < y; omega)
    · have h : y = P.clean := h
      rcases hc with hc | hc
      · exact not_none hD hy (h.trans hc)
      · exact hc.2 (h ▸ List.mem_cons_self ..)
theorem clean_valid {D : Int → Bool} {P : Po} (hD : D (-1) = false) (hv : validP true D P = true) : validP true D (cleanP true D P) = true := by
  cases hb : cleanB true D P
  · rw [show cleanP true D P = P from by unfold cleanP; rw [hb]; rfl]; exact hv
  · obtain ⟨y, r, hf, he, _⟩ := clean_is hb
    obtain ⟨⟨hA, hp⟩, hh, hc, hn⟩ := valid_iff.1 hv
    rw [hf] at hA hp hh
    rw [he]
    have hy := hA y (List.mem_cons_self ..)
    refine valid_iff.2 ⟨⟨fun x hx => hA x (List.mem_cons_of_mem _ hx), (List.pairwise_cons.1 hp).2⟩, lane_mono hh (fun z hz => List.mem_cons_of_mem _ hz), .inr ⟨hy, fun h => ?_⟩, .inr fun h => ?_⟩
    · exact absurd ((List.pairwise_cons.1 hp).1 y h) (by show ¬ y < y; omega)
    · have h : P.host = y := h
      rcases hh with hh | hh
      · exact not_none hD hy (h.symm.trans hh)
      · exact hh.2 (h ▸ List.mem_cons_self ..)
theorem leave_valid {D : Int → Bool} {P : Po} {b : Bool} (hv : validP true D P = true) : validP true D (leaveP true D P b) = true := by
  obtain ⟨hA, hh, hc, hn⟩ := valid_iff.1 hv
  unfold leaveP
  split
  · split
    · exact valid_iff.2 ⟨hA, .inl rfl, hc, .inl rfl⟩
    · refine valid_iff.2 ⟨hA, hh, .inl rfl, ?_⟩
      by_cases h : P.host = -1
      · exact .inl h
      · exact .inr h
  · exact hv
/-- the zones that are counted -/
def one (x : Int) : Nat := if x = -1 then 0 else 1
def cntP (P : Po) : Nat := P.free.length + one P.host + one P.clean
theorem one_some {D : Int → Bool} (hD : D (-1) = false) {y : Int} (h : D y = true) : one y = 1 := if_neg (not_none hD h)
theorem host_cnt {D : Int → Bool} {P : Po} (hD : D (-1) = false) (hv : validP true D P = true) : cntP (hostP true D P) = cntP P := by
  cases hb : hostB true D P
  · rw [show hostP true D P = P from by unfold hostP; rw [hb]; rfl]
  · obtain ⟨y, r, hf, he, hm⟩ := host_is hb
    have hy := (valid_iff.1 hv).1.1 y (hf ▸ List.mem_cons_self ..)
    rw [he]
    unfold cntP
    rw [hf, hm, show one (-1) = 0 from rfl]
    show r.length + one y + _ = (r.length + 1) + 0 + _
    rw [one_some hD hy]
theorem clean_cnt {D : Int → Bool} {P : Po} (hD : D (-1) = false) (hv : validP true D P = true) : cntP (cleanP true D P) = cntP P := by
  cases hb : cleanB true D P
  · rw [show cleanP true D P = P from by unfold cleanP; rw [hb]; rfl]
  · obtain ⟨y, r, hf, he, hm⟩ := clean_is hb
    have hy := (valid_iff.1 hv).1.1 y (hf ▸ List.mem_cons_self ..)
    rw [he]
    unfold cntP
    rw [hf, hm, show one (-1) = 0 from rfl]
    show r.length + one P.host + one y = (r.length + 1) + one P.host + 0
    rw [one_some hD hy]
    omega
theorem leave_cnt {D : Int → Bool} {P : Po} {b : Bool} : cntP (leaveP true D P b) + (if leaveB true D P b = true then 1 else 0) = cntP P := by
  unfold leaveP
  split
  · rename_i hb
    unfold leaveB at hb
    rw [Bool.and_eq_true] at hb
    cases b
    · have h1 : ¬ P.clean = -1 := by simpa using hb.2
      show P.free.length + one P.host + 0 + 1 = P.free.length + one P.host + one P.clean
      rw [show one P.clean = 1 from if_neg h1]
    · have h1 : ¬ P.host = -1 := by simpa using hb.2
      show P.free.length + 0 + one P.clean + 1 = P.free.length + one P.host + one P.clean
      rw [show one P.host = 1 from if_neg h1]
      omega
  · rfl
theorem mem_upto {F z : Int} {k : Nat} : z ∈ upto F k ↔ F ≤ z ∧ z < F + (k : Int) := by
  unfold upto
  rw [List.mem_map]
  constructor
  · rintro ⟨i, hi, rfl⟩
    have := List.mem_range.1 hi
    omega
  · rintro ⟨h1, h2⟩
    exact ⟨(z - F).toNat, List.mem_range.2 (by omega), by omega⟩
theorem upto_len (F : Int) (k : Nat) : (upto F k).length = k := by simp [upto]
theorem upto_asc (F : Int) (k : Nat) : (upto F k).Pairwise (· < ·) := by
  refine List.pairwise_iff_getElem.2 fun i j hi hj hij => ?_
  simp only [upto, List.getElem_map, List.getElem_range]
  omega
theorem ins_all {L : List Int} {z : Int} (h : ∀ x ∈ L, x < z) : insL L z = L ++ [z] := by
  unfold insL
  induction L with
  | nil => rfl
  | cons y r ih =>
    have hy := h y (List.mem_cons_self ..)
    have ih := ih fun x hx => h x (List.mem_cons_of_mem _ hx)
    simp only [List.takeWhile_cons, List.dropWhile_cons, hy, decide_true, if_true, List.cons_append]
    rw [ih]
/-- all zones from F on that have been put -/
def fill (F : Int) (k : Nat) : Po := ⟨upto F k, -1, -1⟩
theorem fill_valid {D : Int → Bool} {F : Int} {k : Nat} (hd : ∀ z, F ≤ z → z < F + (k : Int) → D z = true) : validP true D (fill F k) = true :=
  valid_iff.2 ⟨⟨fun z hz => hd z (mem_upto.1 hz).1 (mem_upto.1 hz).2, upto_asc F k⟩, .inl rfl, .inl rfl, .inl rfl⟩
theorem fill_next {D : Int → Bool} {F : Int} {k : Nat} (h0 : 0 ≤ F) (hd : ∀ z, F ≤ z → z < F + ((k + 1 : Nat) : Int) → D z = true) : putB true D (fill F k) (F + (k : Int)) = true ∧ putP true D (fill F k) (F + (k : Int)) = fill F (k + 1) := by
  have hb : putB true D (fill F k) (F + (k : Int)) = true := by
    unfold putB
    rw [fill_valid (fun z h1 h2 => hd z h1 (by omega)), hd (F + (k : Int)) (by omega) (by omega)]
    have h1 : hasL (fill F k).free (F + (k : Int)) = false := by
      rw [← Bool.not_eq_true, has_iff]
      exact fun h => by have := (mem_upto.1 h).2; omega
    have h2 : ¬ F + (k : Int) = -1 := by omega
    rw [h1, show (fill F k).host = -1 from rfl, show (fill F k).clean = -1 from rfl, decide_eq_false h2]
    rfl
  refine ⟨hb, ?_⟩
  unfold putP
  rw [if_pos hb]
  unfold fill
  congr 1
  show insL (upto F k) _ = _
  rw [ins_all (fun x hx => (mem_upto.1 hx).2)]
  simp [upto, List.range_succ]
end Go.Proofs.Ytjdlekjikemdpaa.PoolMath
