/- Texts that belong together, part 3. -/
import Derived.Test.YtbfoagfemgogkaaPack2

/- Retired zones with their indices, and what a walk through them knows. Plain mathematics. -/
namespace Go.Proofs.Ytbfoagfemgogkaa.EpoMath
/-- retired zones with their indices -/
def idx (Z : List Ret) : List (Nat × Ret) := Z.mapIdx fun i r => (i, r)
theorem idx_len (Z : List Ret) : (idx Z).length = Z.length := List.length_mapIdx
theorem idx_at (Z : List Ret) (i : Nat) : (idx Z)[i]? = Z[i]?.map fun r => (i, r) := List.getElem?_mapIdx
theorem idx_snd (Z : List Ret) : (idx Z).map (·.2) = Z := by
  refine List.ext_getElem? fun i => ?_
  rw [List.getElem?_map, idx_at]
  cases Z[i]? <;> rfl
theorem idx_next {Z : List Ret} {j : Nat} {r : Ret} (h : Z[j]? = some r) : (idx Z).take (j + 1) = (idx Z).take j ++ [(j, r)] := by
  rw [List.take_add_one, idx_at, h]
  rfl
theorem idx_front {Z : List Ret} {P : List (Nat × Ret)} {x : Nat × Ret} (h : (P ++ [x]) <+: idx Z) : x.1 = P.length ∧ Z[P.length]? = some x.2 ∧ ∀ (i : Nat) (y : Ret), i < P.length → Z[i]? = some y → (P.map (·.2))[i]? = some y := by
  obtain ⟨Q, hQ⟩ := h
  have hx : (idx Z)[P.length]? = some x := by
    rw [← hQ, List.append_assoc, List.getElem?_append_right (Nat.le_refl _)]
    simp
  rw [idx_at] at hx
  obtain ⟨r, hr, he⟩ := Option.map_eq_some_iff.1 hx
  subst he
  refine ⟨rfl, hr, fun i y hi hy => ?_⟩
  have h1 : (idx Z)[i]? = some (i, y) := by rw [idx_at, hy]; rfl
  rw [← hQ, List.append_assoc, List.getElem?_append_left hi] at h1
  rw [List.getElem?_map, h1]
  rfl
theorem ret_snoc (L : List Ret) (r : Ret) (z : Int) : isRet (L ++ [r]) z = (isRet L z || decide (r.zone = z)) := by
  unfold isRet
  rw [List.any_append]
  simp
theorem ret_front {L Z : List Ret} {z : Int} (h : L <+: Z) (hr : isRet L z = true) : isRet Z z = true := by
  obtain ⟨Q, rfl⟩ := h
  unfold isRet at hr ⊢
  rw [List.any_append, hr, Bool.true_or]
theorem rets_snoc {G : Int} {L : List Ret} {r : Ret} : okRets G (L ++ [r]) = true ↔ okRets G L = true ∧ 0 ≤ r.epoch ∧ r.epoch ≤ G ∧ 0 ≤ r.zone ∧ isRet L r.zone = false := by
  rw [rets_iff, rets_iff, List.pairwise_append]
  have hf : isRet L r.zone = false ↔ ∀ a ∈ L, a.zone ≠ r.zone := by
    unfold isRet
    rw [List.any_eq_false]
    refine ⟨fun h a ha he => h a ha (by simpa using he), fun h a ha => by simpa using h a ha⟩
  constructor
  · rintro ⟨h1, h2, -, h4⟩
    have hr := h1 r (by simp)
    exact ⟨⟨fun x hx => h1 x (by simp [hx]), h2⟩, hr.1, hr.2.1, hr.2.2, hf.2 fun a ha => h4 a ha r (by simp)⟩
  · rintro ⟨⟨h1, h2⟩, h3, h4, h5, h6⟩
    refine ⟨fun x hx => ?_, h2, by simp, fun a ha b hb => ?_⟩
    · rcases List.mem_append.1 hx with hx | hx
      · exact h1 x hx
      · obtain rfl := List.mem_singleton.1 hx
        exact ⟨h3, h4, h5⟩
    · obtain rfl := List.mem_singleton.1 hb
      exact hf.1 h6 a ha
theorem rets_front {G : Int} {L Z : List Ret} (h : L <+: Z) (hb : okRets G L = false) : okRets G Z = false := by
  cases ho : okRets G Z
  · rfl
  · obtain ⟨h1, h2⟩ := rets_iff.1 ho
    have h3 : okRets G L = true := rets_iff.2 ⟨fun r hr => h1 r (h.subset hr), h2.sublist h.sublist⟩
    rw [hb] at h3
    cases h3
theorem rets_nil (G : Int) : okRets G [] = true := rfl
theorem rets_bad {G : Int} {L : List Ret} {r : Ret} (h : r.epoch < 0 ∨ G < r.epoch ∨ r.zone < 0 ∨ isRet L r.zone = true) : okRets G (L ++ [r]) = false := by
  cases ho : okRets G (L ++ [r])
  · rfl
  · obtain ⟨_, h1, h2, h3, h4⟩ := rets_snoc.1 ho
    rcases h with h | h | h | h
    · omega
    · omega
    · omega
    · rw [h4] at h; cases h
theorem ret_ways (G : Int) (L : List Ret) (r : Ret) : (r.epoch < 0) ∨ (¬ r.epoch < 0 ∧ G < r.epoch) ∨ (¬ r.epoch < 0 ∧ ¬ G < r.epoch ∧ r.zone < 0) ∨ (¬ r.epoch < 0 ∧ ¬ G < r.epoch ∧ ¬ r.zone < 0 ∧ isRet L r.zone = true) ∨ (¬ r.epoch < 0 ∧ ¬ G < r.epoch ∧ ¬ r.zone < 0 ∧ isRet L r.zone = false) := by
  cases isRet L r.zone <;> simp <;> omega
/-- where the first zone is that is ready -/
theorem ready_at {E : Epo} {j : Nat} {r : Ret} (hv : validE E = true) (h : E.zones[j]? = some r) (ho : old E.glob r = true) (hb : ∀ (i : Nat) (x : Ret), i < j → E.zones[i]? = some x → old E.glob x = false) : readyR E = some r := by
  unfold readyR
  rw [if_pos hv]
  exact find_at h ho hb
theorem ready_none {E : Epo} (h : ∀ x ∈ E.zones, old E.glob x = false) : readyR E = none := by
  unfold readyR
  split
  · exact List.find?_eq_none.2 fun x hx => by rw [h x hx]; decide
  · rfl
/-- the zones without the one at an index -/
theorem forget_at {E : Epo} {j : Nat} {r : Ret} (hv : validE E = true) (h : E.zones[j]? = some r) : E.zones.filter (other r.zone) = E.zones.take j ++ E.zones.drop (j + 1) := by
  have hp := (valid_e.1 hv).2.2.2
  have hj := (List.getElem?_eq_some_iff.1 h).1
  have hz : E.zones = E.zones.take j ++ r :: E.zones.drop (j + 1) := by
    have := List.take_append_drop j E.zones
    rw [List.drop_eq_getElem_cons hj, (List.getElem?_eq_some_iff.1 h).2] at this
    exact this.symm
  generalize E.zones.take j = A at hz ⊢
  generalize E.zones.drop (j + 1) = B at hz ⊢
  rw [hz] at hp ⊢
  obtain ⟨_, h2, h3⟩ := List.pairwise_append.1 hp
  rw [List.filter_append, List.filter_cons]
  have h4 : other r.zone r = false := by simp [other]
  rw [h4]
  have h5 : A.filter (other r.zone) = A := List.filter_eq_self.2 fun a ha => by
    have := h3 a ha r (by simp)
    simp [other, this]
  have h6 : B.filter (other r.zone) = B := List.filter_eq_self.2 fun b hb => by
    have := (List.pairwise_cons.1 h2).1 b hb
    simp [other, Ne.symm this]
  rw [h5]
  simp [h6]
end Go.Proofs.Ytbfoagfemgogkaa.EpoMath
