
/- A region that leaves its order open, walked in one order, where the last operation may write what the region reads: what the region keeps to need not hold behind the last. Every law holds for any program. -/
import Derived.Test.YtljdepnhhngbeaaBasePlan
namespace Go.Proofs.Ytljdepnhhngbeaa.Last
open Go.RowKit

/-- Does an operation wait for all others? Then it comes last, and what the region keeps to need not hold behind it. -/
def final (md : Region.Mode) (ops : Array Oper) (i : Nat) : Bool :=
  match ops[i]? with
  | none => false
  | some o => (List.range ops.size).all fun j => j == i || o.after.any fun e => Region.binds md e && e.on == j
/-- Whichever comes up: what the region keeps to holds behind all but the last. -/
def any (P : Program) (md : Region.Mode) (ops : Array Oper) (Q : Exit → Act → World → Prop) (S : World → Prop) : Nat → Array Bool → Act → World → Prop
  | 0, listed, a, w => Region.ready md ops listed = [] ∧ Q .normal a w
  | fuel + 1, listed, a, w => (Region.ready md ops listed = [] → Q .normal a w) ∧
    ∀ i ∈ Region.ready md ops listed, wpOp P ops Q i (fun a' w' => (final md ops i = true ∨ S w') ∧ any P md ops Q S fuel (listed.setIfInBounds i true) a' w') a w
/-- Is the plan one: a number with 'true' may come up and is free of the others, one with 'false' is the only one that may come up, and all come up. -/
def good (md : Region.Mode) (ops : Array Oper) : List (Nat × Bool) → Array Bool → Bool
  | [], listed => (Region.ready md ops listed).isEmpty
  | (k, true) :: r, listed => (Region.ready md ops listed).contains k && Region.free md ops listed k && good md ops r (listed.setIfInBounds k true)
  | (k, false) :: r, listed => (Region.ready md ops listed == [k]) && (!r.isEmpty || final md ops k) && good md ops r (listed.setIfInBounds k true)

/-- The operations of a plan, one after the other. -/
def goes (P : Program) (ops : Array Oper) (Q : Exit → Act → World → Prop) (S : World → Prop) : List (Option Oper × Bool) → Act → World → Prop
  | [], a, w => Q .normal a w
  | (none, _) :: _, _, _ => False
  | (some o, true) :: r, a, w => ∃ v, YieldsIf P ops S o v a ∧ goes P ops Q S r (a.put o.dst v) w
  | (some o, false) :: r, a, w => ∃ R : Act → World → Prop, (∀ a' w', R a' w' → (r = [] ∨ S w') ∧ goes P ops Q S r a' w') ∧ (if Region.wanted o (yielded ops a.tmps) then o.wp P a w R Q else R (a.put o.dst undef) w)

section
variable {P : Program} {ops : Array Oper} {Q : Exit → Act → World → Prop} {S : World → Prop} {md : Region.Mode}
theorem listed_both {listed : Array Bool} {i : Nat} (h0 : listed.getD i true = false) (h1 : listed.getD i false = true) : False := by
  rcases Nat.lt_or_ge i listed.size with h | h
  · simp [h] at h0 h1
    rw [h0] at h1
    cases h1
  · simp [Array.getElem?_eq_none h] at h1
theorem not_final {listed : Array Bool} {i j : Nat} (hi : i ∈ Region.ready md ops listed) (hj : j ∈ Region.ready md ops listed) (hij : j ≠ i) : final md ops j = false := by
  obtain ⟨hui, oi, hoi, _⟩ := mem_ready.1 hi
  obtain ⟨_, oj, hoj, hall⟩ := mem_ready.1 hj
  cases hf : final md ops j with
  | false => rfl
  | true =>
    exfalso
    simp only [final, hoj, List.all_eq_true, List.mem_range] at hf
    have h1 := hf i (Array.getElem?_eq_some_iff.1 hoi).1
    rw [Bool.or_eq_true] at h1
    rcases h1 with h1 | h1
    · exact hij (beq_iff_eq.1 h1).symm
    · obtain ⟨e, he, hb⟩ := Array.any_eq_true'.1 h1
      rw [Bool.and_eq_true, beq_iff_eq] at hb
      have h2 := hall e he hb.1
      rw [hb.2] at h2
      exact listed_both hui h2
theorem any_sound : ∀ (fuel : Nat) (listed : Array Bool) (a : Act) (w : World), any P md ops Q S fuel listed a w → wpAny P md ops Q fuel listed a w
  | 0, _, _, _, h => h
  | fuel + 1, _, _, _, h => ⟨h.1, fun i hi => wpOp_mono (fun a' w' h' => any_sound fuel _ a' w' h'.2) (h.2 i hi)⟩
/-- One that may come up, that yields its value in every world that the region keeps to, and that nobody looks at before it, may be taken first. -/
theorem any_first {i : Nat} {oi : Oper} {v : Value} (hi : ops[i]? = some oi) (hsel : ∀ (j : Nat) (o : Oper) cs b, ops[j]? = some o → o.op ≠ .select cs b)
    (hQ : ∀ c a w, Q (.panic c) (a.put oi.dst v) w → Q (.panic c) a w) :
    ∀ (fuel : Nat) (listed : Array Bool) (a : Act) (w : World),
      (∀ j oj, ops[j]? = some oj → j ≠ i → listed.getD j true = false → (∀ e ∈ oj.after, Region.binds md e = true → e.on ≠ i) → oi.apart ops oj = true) →
      i ∈ Region.ready md ops listed → YieldsIf P ops S oi v a → S w →
      any P md ops Q S fuel (listed.setIfInBounds i true) (a.put oi.dst v) w → any P md ops Q S (fuel + 1) listed a w := by
  intro fuel
  induction fuel with
  | zero =>
    intro listed a w _ hr hy hS H
    refine ⟨fun h => (by rw [h] at hr; cases hr), fun j hj => ?_⟩
    by_cases hji : j = i
    · subst hji; exact hy.wpOp hi hS ⟨.inr hS, H⟩
    · have h1 := ready_mono hj hji
      rw [H.1] at h1
      cases h1
  | succ fuel ih =>
    intro listed a w hfree hr hy hS H
    refine ⟨fun h => (by rw [h] at hr; cases hr), fun j hj => ?_⟩
    by_cases hji : j = i
    · subst hji; exact hy.wpOp hi hS ⟨.inr hS, H⟩
    · have h1 := H.2 j (ready_mono hj hji)
      obtain ⟨hjun, oj, hoj, hall⟩ := mem_ready.1 hj
      have hnf := not_final hr hj hji
      have hnot : ∀ e ∈ oj.after, Region.binds md e = true → e.on ≠ i := fun e he hb heq =>
        listed_both (mem_ready.1 hr).1 (heq ▸ hall e he hb)
      have h2 := wpOp_putIf hoj (hfree j oj hoj hji hjun hnot) (fun cs b => hsel i oi cs b hi) (fun cs b => hsel j oj cs b hoj) hQ hy h1
      refine wpOp_mono (fun a' w' h3 => ?_) h2
      have hS' : S w' := h3.2.1.resolve_left (by rw [hnf]; decide)
      refine ⟨.inr hS', ih (listed.setIfInBounds j true) a' w' (fun k ok hk hki hun hno => hfree k ok hk hki ?_ hno) (ready_mono hr (Ne.symm hji)) h3.1 hS' ?_⟩
      · by_cases hjk : j = k
        · subst hjk; exact hjun
        · rwa [getD_set_ne true hjk] at hun
      · rw [Array.setIfInBounds_comm _ _ hji]
        exact h3.2.2
theorem any_of_goes (hs : Region.noSelect ops = true) (hQ : ∀ c a d v w, Q (.panic c) (Act.put a d v) w → Q (.panic c) a w) :
    ∀ (plan : List (Nat × Bool)) (listed : Array Bool) (a : Act) (w : World), good md ops plan listed = true → (plan = [] ∨ S w) →
      goes P ops Q S (plan.map fun p => (ops[p.1]?, p.2)) a w → any P md ops Q S plan.length listed a w
  | [], listed, a, w, hB, _, h => ⟨by simpa [good] using hB, h⟩
  | (k, true) :: r, listed, a, w, hB, hS, h => by
    have hS' : S w := hS.resolve_left (by simp)
    simp only [good, Bool.and_eq_true] at hB
    simp only [List.map_cons] at h
    cases ho : ops[k]? with
    | none => rw [ho] at h; exact h.elim
    | some o =>
      rw [ho] at h
      obtain ⟨v, hy, hr⟩ := h
      exact any_first ho (Region.noSelect_spec hs) (fun c a w => hQ c a o.dst v w) r.length listed a w (Region.free_spec ho hB.1.2) (by simpa using hB.1.1) hy hS' (any_of_goes hs hQ r _ _ _ hB.2 (.inr hS') hr)
  | (k, false) :: r, listed, a, w, hB, hS, h => by
    simp only [good, Bool.and_eq_true, beq_iff_eq] at hB
    simp only [List.map_cons] at h
    refine ⟨fun h0 => (by rw [hB.1.1] at h0; cases h0), fun i hi => ?_⟩
    rw [hB.1.1] at hi
    have hik : i = k := by simpa using hi
    subst hik
    cases ho : ops[i]? with
    | none => rw [ho] at h; exact h.elim
    | some o =>
      rw [ho] at h
      obtain ⟨R, hR, hr⟩ := h
      have hw : wpOp P ops Q i R a w := by
        unfold wpOp
        simp only [ho]
        split
        · rename_i hw
          rw [if_pos hw] at hr
          exact .inl hr
        · rename_i hw
          rw [if_neg hw] at hr
          exact hr
      refine wpOp_mono (fun a' w' h' => ?_) hw
      obtain ⟨h1, h2⟩ := hR a' w' h'
      have h3 : r = [] ∨ S w' := h1.imp_left (by simp)
      refine ⟨?_, any_of_goes hs hQ r _ _ _ hB.2 h3 h2⟩
      rcases h3 with h3 | h3
      · subst h3
        exact .inl (by simpa using hB.1.2)
      · exact .inr h3
/-- THE BEGINNING: S is what the region keeps to. -/
theorem start {id : Nat} {a : Act} {w : World} (S : World → Prop) (plan : List (Nat × Bool)) (hm : P.follows .mixedOrders = true) (hs : Region.noSelect ops = true) (hl : plan.length = ops.size)
    (hB : good .any ops plan (Array.replicate ops.size false) = true) (hS : S w.drew)
    (h : goes P ops (NoPanic Q) S (plan.map fun p => (ops[p.1]?, p.2)) a w.drew) : (Code.region id ops true).wp P Q a w :=
  wp_region_noPanic (wp_region_any hm (by
    have := any_sound _ _ _ _ (any_of_goes (P := P) (Q := NoPanic Q) (S := S) hs (fun _ _ _ _ _ h => h) plan (Array.replicate ops.size false) a w.drew hB (.inr hS) h)
    rw [hl] at this
    exact this))
/-- THE END. -/
theorem ends {Q : Exit → Act → World → Prop} {a : Act} {w : World} (h : Q .normal a w) : goes P ops (NoPanic Q) S [] a w := h
/-- One that yields its value in every world that meets S. -/
theorem take {o : Oper} {r : List (Option Oper × Bool)} {a : Act} {w : World} (v : Value) (hw : Region.wanted o (yielded ops a.tmps) = true) (hv : ∀ w, S w → (execOp a.eval o).run P w = .ok (.value v) w)
    (h : goes P ops Q S r (a.put o.dst v) w) : goes P ops Q S ((some o, true) :: r) a w := ⟨v, .inl ⟨hw, hv⟩, h⟩
/-- One that is passed over. -/
theorem pass {o : Oper} {r : List (Option Oper × Bool)} {a : Act} {w : World} (hw : Region.wanted o (yielded ops a.tmps) = false)
    (h : goes P ops Q S r (a.put o.dst undef) w) : goes P ops Q S ((some o, true) :: r) a w := ⟨undef, .inr ⟨hw, rfl⟩, h⟩
theorem pass' {o : Oper} {r : List (Option Oper × Bool)} {a : Act} {w : World} (hw : Region.wanted o (yielded ops a.tmps) = false) (hS : S w)
    (h : goes P ops Q S r (a.put o.dst undef) w) : goes P ops Q S ((some o, false) :: r) a w :=
  ⟨fun a' w' => S w' ∧ goes P ops Q S r a' w', fun _ _ h => ⟨.inr h.1, h.2⟩, by rw [if_neg (by simp [hw])]; exact ⟨hS, h⟩⟩
/-- One that is carried out. -/
theorem carry {o : Oper} {r : List (Option Oper × Bool)} {a : Act} {w : World} (hw : Region.wanted o (yielded ops a.tmps) = true)
    (h : o.wp P a w (fun a' w' => S w' ∧ goes P ops Q S r a' w') Q) : goes P ops Q S ((some o, false) :: r) a w :=
  ⟨fun a' w' => S w' ∧ goes P ops Q S r a' w', fun _ _ h => ⟨.inr h.1, h.2⟩, by rw [if_pos hw]; exact h⟩
/-- The last one. -/
theorem last {o : Oper} {Q : Exit → Act → World → Prop} {a : Act} {w : World} (hw : Region.wanted o (yielded ops a.tmps) = true) (h : o.wp P a w (fun a' w' => Q .normal a' w') (NoPanic Q)) : goes P ops (NoPanic Q) S [(some o, false)] a w :=
  ⟨fun a' w' => Q .normal a' w', fun _ _ h => ⟨.inl rfl, h⟩, by rw [if_pos hw]; exact h⟩
/-- A call of a Go function, by its contract. -/
theorem call {o : Oper} {r : List (Option Oper × Bool)} {a : Act} {w : World} (hw : Region.wanted o (yielded ops a.tmps) = true) (f : FuncId) (vs : Array Value) {R : Ending → World → Prop}
    (ho : (execOp a.eval o).run P w = .ok (.enter f vs) w) (hc : Calls P f vs w R)
    (h : ∀ e w', R e w' → ∃ v, e = .returned v ∧ S w' ∧ goes P ops Q S r (a.put o.dst v) w') : goes P ops Q S ((some o, false) :: r) a w :=
  carry hw (by
    unfold Oper.wp
    rw [ho]
    simp only [Oper.upon]
    refine hc.mono fun e w' he => ?_
    obtain ⟨v, rfl, hS, hg⟩ := h e w' he
    exact ⟨hS, hg⟩)
/-- One that makes memory. -/
theorem make {o : Oper} {r : List (Option Oper × Bool)} {a : Act} {w : World} (hw : Region.wanted o (yielded ops a.tmps) = true) (v : Value) (w1 : World)
    (ho : (execOp a.eval o).run P w = .ok (.value v) w1) (hS : S w1) (h : goes P ops Q S r (a.put o.dst v) w1) : goes P ops Q S ((some o, false) :: r) a w :=
  carry hw (by
    unfold Oper.wp
    rw [ho]
    exact ⟨hS, h⟩)
end
end Go.Proofs.Ytljdepnhhngbeaa.Last
