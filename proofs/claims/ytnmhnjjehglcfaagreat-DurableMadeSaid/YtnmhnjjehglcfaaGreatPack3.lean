/- Texts that belong together, part 3. -/
import Derived.Test.YtnmhnjjehglcfaaGreatPack2
import Derived.Laws.IdiomStrings
import Derived.Deep.OwnRows
import Derived.Below

/- A region that leaves its order open, walked in one order, where the last operation may write what the region reads: what the region keeps to need not hold behind the last. Every law holds for any program. -/
namespace Go.Proofs.YtnmhnjjehglcfaaGreat.Last
open Go.RowKit

/-- Does an operation wait for all others? Then it comes last, and what the region keeps to need not hold behind it. -/
def final (md : Region.Mode) (ops : Array Oper) (i : Nat) : Bool :=
  match ops[i]? with
  | none => false
  | some o => (List.range ops.size).all fun j => j == i || o.after.any fun e => Region.binds md e && e.on == j
/-- Whichever comes up: what the region keeps to holds behind all but the last. -/
def any (P : Program) (md : Region.Mode) (ops : Array Oper) (Q : Exit → Act → World → Prop) (S : World → Prop) : Nat → Array Bool → Act → World → Prop
  | 0, listed, a, w => Region.ready md ops listed = [] ∧ Q .normal a w
  | fuel + 1, listed, a, w => (Region.ready md ops listed = [] → Q .normal a w) ∧
    ∀ i ∈ Region.ready md ops listed, wpOp P ops Q i (fun a' w' => (final md ops i = true ∨ S w') ∧ any P md ops Q S fuel (listed.setIfInBounds i true) a' w') a w
/-- Is the plan one: a number with 'true' may come up and is free of the others, one with 'false' is the only one that may come up, and all come up. -/
def good (md : Region.Mode) (ops : Array Oper) : List (Nat × Bool) → Array Bool → Bool
  | [], listed => (Region.ready md ops listed).isEmpty
  | (k, true) :: r, listed => (Region.ready md ops listed).contains k && Region.free md ops listed k && good md ops r (listed.setIfInBounds k true)
  | (k, false) :: r, listed => (Region.ready md ops listed == [k]) && (!r.isEmpty || final md ops k) && good md ops r (listed.setIfInBounds k true)

/-- The operations of a plan, one after the other. -/
def goes (P : Program) (ops : Array Oper) (Q : Exit → Act → World → Prop) (S : World → Prop) : List (Option Oper × Bool) → Act → World → Prop
  | [], a, w => Q .normal a w
  | (none, _) :: _, _, _ => False
  | (some o, true) :: r, a, w => ∃ v, YieldsIf P ops S o v a ∧ goes P ops Q S r (a.put o.dst v) w
  | (some o, false) :: r, a, w => ∃ R : Act → World → Prop, (∀ a' w', R a' w' → (r = [] ∨ S w') ∧ goes P ops Q S r a' w') ∧ (if Region.wanted o (yielded ops a.tmps) then o.wp P a w R Q else R (a.put o.dst undef) w)

section
variable {P : Program} {ops : Array Oper} {Q : Exit → Act → World → Prop} {S : World → Prop} {md : Region.Mode}
theorem listed_both {listed : Array Bool} {i : Nat} (h0 : listed.getD i true = false) (h1 : listed.getD i false = true) : False := by
  rcases Nat.lt_or_ge i listed.size with h | h
  · simp [h] at h0 h1
    rw [h0] at h1
    cases h1
  · simp [Array.getElem?_eq_none h] at h1
theorem not_final {listed : Array Bool} {i j : Nat} (hi : i ∈ Region.ready md ops listed) (hj : j ∈ Region.ready md ops listed) (hij : j ≠ i) : final md ops j = false := by
  obtain ⟨hui, oi, hoi, _⟩ := mem_ready.1 hi
  obtain ⟨_, oj, hoj, hall⟩ := mem_ready.1 hj
  cases hf : final md ops j with
  | false => rfl
  | true =>
    exfalso
    simp only [final, hoj, List.all_eq_true, List.mem_range] at hf
    have h1 := hf i (Array.getElem?_eq_some_iff.1 hoi).1
    rw [Bool.or_eq_true] at h1
    rcases h1 with h1 | h1
    · exact hij (beq_iff_eq.1 h1).symm
    · obtain ⟨e, he, hb⟩ := Array.any_eq_true'.1 h1
      rw [Bool.and_eq_true, beq_iff_eq] at hb
      have h2 := hall e he hb.1
      rw [hb.2] at h2
      exact listed_both hui h2
theorem any_sound : ∀ (fuel : Nat) (listed : Array Bool) (a : Act) (w : World), any P md ops Q S fuel listed a w → wpAny P md ops Q fuel listed a w
  | 0, _, _, _, h => h
  | fuel + 1, _, _, _, h => ⟨h.1, fun i hi => wpOp_mono (fun a' w' h' => any_sound fuel _ a' w' h'.2) (h.2 i hi)⟩
/-- One that may come up, that yields its value in every world that the region keeps to, and that nobody looks at before it, may be taken first. -/
theorem any_first {i : Nat} {oi : Oper} {v : Value} (hi : ops[i]? = some oi) (hsel : ∀ (j : Nat) (o : Oper) cs b, ops[j]? = some o → o.op ≠ .select cs b)
    (hQ : ∀ c a w, Q (.panic c) (a.put oi.dst v) w → Q (.panic c) a w) :
    ∀ (fuel : Nat) (listed : Array Bool) (a : Act) (w : World),
      (∀ j oj, ops[j]? = some oj → j ≠ i → listed.getD j true = false → (∀ e ∈ oj.after, Region.binds md e = true → e.on ≠ i) → oi.apart ops oj = true) →
      i ∈ Region.ready md ops listed → YieldsIf P ops S oi v a → S w →
      any P md ops Q S fuel (listed.setIfInBounds i true) (a.put oi.dst v) w → any P md ops Q S (fuel + 1) listed a w := by
  intro fuel
  induction fuel with
  | zero =>
    intro listed a w _ hr hy hS H
    refine ⟨fun h => (by rw [h] at hr; cases hr), fun j hj => ?_⟩
    by_cases hji : j = i
    · subst hji; exact hy.wpOp hi hS ⟨.inr hS, H⟩
    · have h1 := ready_mono hj hji
      rw [H.1] at h1
      cases h1
  | succ fuel ih =>
    intro listed a w hfree hr hy hS H
    refine ⟨fun h => (by rw [h] at hr; cases hr), fun j hj => ?_⟩
    by_cases hji : j = i
    · subst hji; exact hy.wpOp hi hS ⟨.inr hS, H⟩
    · have h1 := H.2 j (ready_mono hj hji)
      obtain ⟨hjun, oj, hoj, hall⟩ := mem_ready.1 hj
      have hnf := not_final hr hj hji
      have hnot : ∀ e ∈ oj.after, Region.binds md e = true → e.on ≠ i := fun e he hb heq =>
        listed_both (mem_ready.1 hr).1 (heq ▸ hall e he hb)
      have h2 := wpOp_putIf hoj (hfree j oj hoj hji hjun hnot) (fun cs b => hsel i oi cs b hi) (fun cs b => hsel j oj cs b hoj) hQ hy h1
      refine wpOp_mono (fun a' w' h3 => ?_) h2
      have hS' : S w' := h3.2.1.resolve_left (by rw [hnf]; decide)
      refine ⟨.inr hS', ih (listed.setIfInBounds j true) a' w' (fun k ok hk hki hun hno => hfree k ok hk hki ?_ hno) (ready_mono hr (Ne.symm hji)) h3.1 hS' ?_⟩
      · by_cases hjk : j = k
        · subst hjk; exact hjun
        · rwa [getD_set_ne true hjk] at hun
      · rw [Array.setIfInBounds_comm _ _ hji]
        exact h3.2.2
theorem any_of_goes (hs : Region.noSelect ops = true) (hQ : ∀ c a d v w, Q (.panic c) (Act.put a d v) w → Q (.panic c) a w) :
    ∀ (plan : List (Nat × Bool)) (listed : Array Bool) (a : Act) (w : World), good md ops plan listed = true → (plan = [] ∨ S w) →
      goes P ops Q S (plan.map fun p => (ops[p.1]?, p.2)) a w → any P md ops Q S plan.length listed a w
  | [], listed, a, w, hB, _, h => ⟨by simpa [good] using hB, h⟩
  | (k, true) :: r, listed, a, w, hB, hS, h => by
    have hS' : S w := hS.resolve_left (by simp)
    simp only [good, Bool.and_eq_true] at hB
    simp only [List.map_cons] at h
    cases ho : ops[k]? with
    | none => rw [ho] at h; exact h.elim
    | some o =>
      rw [ho] at h
      obtain ⟨v, hy, hr⟩ := h
      exact any_first ho (Region.noSelect_spec hs) (fun c a w => hQ c a o.dst v w) r.length listed a w (Region.free_spec ho hB.1.2) (by simpa using hB.1.1) hy hS' (any_of_goes hs hQ r _ _ _ hB.2 (.inr hS') hr)
  | (k, false) :: r, listed, a, w, hB, hS, h => by
    simp only [good, Bool.and_eq_true, beq_iff_eq] at hB
    simp only [List.map_cons] at h
    refine ⟨fun h0 => (by rw [hB.1.1] at h0; cases h0), fun i hi => ?_⟩
    rw [hB.1.1] at hi
    have hik : i = k := by simpa using hi
    subst hik
    cases ho : ops[i]? with
    | none => rw [ho] at h; exact h.elim
    | some o =>
      rw [ho] at h
      obtain ⟨R, hR, hr⟩ := h
      have hw : wpOp P ops Q i R a w := by
        unfold wpOp
        simp only [ho]
        split
        · rename_i hw
          rw [if_pos hw] at hr
          exact .inl hr
        · rename_i hw
          rw [if_neg hw] at hr
          exact hr
      refine wpOp_mono (fun a' w' h' => ?_) hw
      obtain ⟨h1, h2⟩ := hR a' w' h'
      have h3 : r = [] ∨ S w' := h1.imp_left (by simp)
      refine ⟨?_, any_of_goes hs hQ r _ _ _ hB.2 h3 h2⟩
      rcases h3 with h3 | h3
      · subst h3
        exact .inl (by simpa using hB.1.2)
      · exact .inr h3
/-- THE BEGINNING: S is what the region keeps to. -/
theorem start {id : Nat} {a : Act} {w : World} (S : World → Prop) (plan : List (Nat × Bool)) (hm : P.follows .mixedOrders = true) (hs : Region.noSelect ops = true) (hl : plan.length = ops.size)
    (hB : good .any ops plan (Array.replicate ops.size false) = true) (hS : S w.drew)
    (h : goes P ops (NoPanic Q) S (plan.map fun p => (ops[p.1]?, p.2)) a w.drew) : (Code.region id ops true).wp P Q a w :=
  wp_region_noPanic (wp_region_any hm (by
    have := any_sound _ _ _ _ (any_of_goes (P := P) (Q := NoPanic Q) (S := S) hs (fun _ _ _ _ _ h => h) plan (Array.replicate ops.size false) a w.drew hB (.inr hS) h)
    rw [hl] at this
    exact this))
/-- THE END. -/
theorem ends {Q : Exit → Act → World → Prop} {a : Act} {w : World} (h : Q .normal a w) : goes P ops (NoPanic Q) S [] a w := h
/-- One that yields its value in every world that meets S. -/
theorem take {o : Oper} {r : List (Option Oper × Bool)} {a : Act} {w : World} (v : Value) (hw : Region.wanted o (yielded ops a.tmps) = true) (hv : ∀ w, S w → (execOp a.eval o).run P w = .ok (.value v) w)
    (h : goes P ops Q S r (a.put o.dst v) w) : goes P ops Q S ((some o, true) :: r) a w := ⟨v, .inl ⟨hw, hv⟩, h⟩
/-- One that is passed over. -/
theorem pass {o : Oper} {r : List (Option Oper × Bool)} {a : Act} {w : World} (hw : Region.wanted o (yielded ops a.tmps) = false)
    (h : goes P ops Q S r (a.put o.dst undef) w) : goes P ops Q S ((some o, true) :: r) a w := ⟨undef, .inr ⟨hw, rfl⟩, h⟩
theorem pass' {o : Oper} {r : List (Option Oper × Bool)} {a : Act} {w : World} (hw : Region.wanted o (yielded ops a.tmps) = false) (hS : S w)
    (h : goes P ops Q S r (a.put o.dst undef) w) : goes P ops Q S ((some o, false) :: r) a w :=
  ⟨fun a' w' => S w' ∧ goes P ops Q S r a' w', fun _ _ h => ⟨.inr h.1, h.2⟩, by rw [if_neg (by simp [hw])]; exact ⟨hS, h⟩⟩
/-- One that is carried out. -/
theorem carry {o : Oper} {r : List (Option Oper × Bool)} {a : Act} {w : World} (hw : Region.wanted o (yielded ops a.tmps) = true)
    (h : o.wp P a w (fun a' w' => S w' ∧ goes P ops Q S r a' w') Q) : goes P ops Q S ((some o, false) :: r) a w :=
  ⟨fun a' w' => S w' ∧ goes P ops Q S r a' w', fun _ _ h => ⟨.inr h.1, h.2⟩, by rw [if_pos hw]; exact h⟩
/-- The last one. -/
theorem last {o : Oper} {Q : Exit → Act → World → Prop} {a : Act} {w : World} (hw : Region.wanted o (yielded ops a.tmps) = true) (h : o.wp P a w (fun a' w' => Q .normal a' w') (NoPanic Q)) : goes P ops (NoPanic Q) S [(some o, false)] a w :=
  ⟨fun a' w' => Q .normal a' w', fun _ _ h => ⟨.inl rfl, h⟩, by rw [if_pos hw]; exact h⟩
/-- A call of a Go function, by its contract. -/
theorem call {o : Oper} {r : List (Option Oper × Bool)} {a : Act} {w : World} (hw : Region.wanted o (yielded ops a.tmps) = true) (f : FuncId) (vs : Array Value) {R : Ending → World → Prop}
    (ho : (execOp a.eval o).run P w = .ok (.enter f vs) w) (hc : Calls P f vs w R)
    (h : ∀ e w', R e w' → ∃ v, e = .returned v ∧ S w' ∧ goes P ops Q S r (a.put o.dst v) w') : goes P ops Q S ((some o, false) :: r) a w :=
  carry hw (by
    unfold Oper.wp
    rw [ho]
    simp only [Oper.upon]
    refine hc.mono fun e w' he => ?_
    obtain ⟨v, rfl, hS, hg⟩ := h e w' he
    exact ⟨hS, hg⟩)
/-- One that makes memory. -/
theorem make {o : Oper} {r : List (Option Oper × Bool)} {a : Act} {w : World} (hw : Region.wanted o (yielded ops a.tmps) = true) (v : Value) (w1 : World)
    (ho : (execOp a.eval o).run P w = .ok (.value v) w1) (hS : S w1) (h : goes P ops Q S r (a.put o.dst v) w1) : goes P ops Q S ((some o, false) :: r) a w :=
  carry hw (by
    unfold Oper.wp
    rw [ho]
    exact ⟨hS, h⟩)
end
end Go.Proofs.YtnmhnjjehglcfaaGreat.Last

/- A region that leaves its order open, walked by a plan in which two operations may come up at one time, where the last operation may write what the region reads. Every law holds for any program. -/
namespace Go.Proofs.YtnmhnjjehglcfaaGreat.LTree
open Go.RowKit Tree Last
def isDone {α : Type} : T α → Bool
  | .done => true
  | _ => false
def good (md : Region.Mode) (ops : Array Oper) : T Nat → Array Bool → Bool
  | .done, listed => (Region.ready md ops listed).isEmpty
  | .take k r, listed => (Region.ready md ops listed).contains k && Region.free md ops listed k && good md ops r (listed.setIfInBounds k true)
  | .only k r, listed => (Region.ready md ops listed == [k]) && (!isDone r || final md ops k) && good md ops r (listed.setIfInBounds k true)
  | .fork k r l s, listed => (Region.ready md ops listed == [k, l]) && (r.size == s.size) && !isDone r && !isDone s && good md ops r (listed.setIfInBounds k true) && good md ops s (listed.setIfInBounds l true)
def goes (P : Program) (ops : Array Oper) (Q : Exit → Act → World → Prop) (S : World → Prop) : T (Option Oper) → Act → World → Prop
  | .done, a, w => Q .normal a w
  | .take none _, _, _ => False
  | .take (some o) r, a, w => ∃ v, YieldsIf P ops S o v a ∧ goes P ops Q S r (a.put o.dst v) w
  | .only none _, _, _ => False
  | .only (some o) r, a, w => ∃ R : Act → World → Prop, (∀ a' w', R a' w' → (isDone r = true ∨ S w') ∧ goes P ops Q S r a' w') ∧ (if Region.wanted o (yielded ops a.tmps) then o.wp P a w R Q else R (a.put o.dst undef) w)
  | .fork none _ _ _, _, _ => False
  | .fork _ _ none _, _, _ => False
  | .fork (some o) r (some p) s, a, w => (∃ R : Act → World → Prop, (∀ a' w', R a' w' → S w' ∧ goes P ops Q S r a' w') ∧ (if Region.wanted o (yielded ops a.tmps) then o.wp P a w R Q else R (a.put o.dst undef) w)) ∧
      (∃ R : Act → World → Prop, (∀ a' w', R a' w' → S w' ∧ goes P ops Q S s a' w') ∧ (if Region.wanted p (yielded ops a.tmps) then p.wp P a w R Q else R (a.put p.dst undef) w))
section
variable {P : Program} {ops : Array Oper} {Q : Exit → Act → World → Prop} {S : World → Prop} {md : Region.Mode}
theorem done_map {r : T Nat} : isDone (r.map fun p => ops[p]?) = isDone r := by cases r <;> rfl
theorem one {i : Nat} {o : Oper} {a : Act} {w : World} {G G' : Act → World → Prop} (ho : ops[i]? = some o)
    (h : ∃ R : Act → World → Prop, (∀ a' w', R a' w' → G a' w') ∧ (if Region.wanted o (yielded ops a.tmps) then o.wp P a w R Q else R (a.put o.dst undef) w))
    (hG : ∀ a' w', G a' w' → G' a' w') : wpOp P ops Q i G' a w := by
  obtain ⟨R, hR, hr⟩ := h
  have hw : wpOp P ops Q i R a w := by
    unfold wpOp
    simp only [ho]
    split
    · rename_i hw
      rw [if_pos hw] at hr
      exact .inl hr
    · rename_i hw
      rw [if_neg hw] at hr
      exact hr
  exact wpOp_mono (fun a' w' h' => hG a' w' (hR a' w' h')) hw
theorem any_of_goes (hs : Region.noSelect ops = true) (hQ : ∀ c a d v w, Q (.panic c) (Act.put a d v) w → Q (.panic c) a w) :
    ∀ (plan : T Nat) (listed : Array Bool) (a : Act) (w : World), good md ops plan listed = true → (isDone plan = true ∨ S w) →
      goes P ops Q S (plan.map fun p => ops[p]?) a w → any P md ops Q S plan.size listed a w
  | .done, listed, a, w, hB, _, h => ⟨by simpa [good] using hB, h⟩
  | .take k r, listed, a, w, hB, hS, h => by
    have hS' : S w := hS.resolve_left (by simp [isDone])
    simp only [good, Bool.and_eq_true] at hB
    simp only [T.map] at h
    cases ho : ops[k]? with
    | none => rw [ho] at h; exact h.elim
    | some o =>
      rw [ho] at h
      obtain ⟨v, hy, hr⟩ := h
      exact any_first ho (Region.noSelect_spec hs) (fun c a w => hQ c a o.dst v w) r.size listed a w (Region.free_spec ho hB.1.2) (by simpa using hB.1.1) hy hS' (any_of_goes hs hQ r _ _ _ hB.2 (.inr hS') hr)
  | .only k r, listed, a, w, hB, _, h => by
    simp only [good, Bool.and_eq_true, beq_iff_eq] at hB
    simp only [T.map] at h
    refine ⟨fun h0 => (by rw [hB.1.1] at h0; cases h0), fun i hi => ?_⟩
    rw [hB.1.1] at hi
    have hik : i = k := by simpa using hi
    subst hik
    cases ho : ops[i]? with
    | none => rw [ho] at h; exact h.elim
    | some o =>
      rw [ho] at h
      refine one ho h fun a' w' hh => ?_
      have h3 : isDone r = true ∨ S w' := by rw [← done_map (ops := ops)]; exact hh.1
      refine ⟨?_, any_of_goes hs hQ r _ _ _ hB.2 h3 hh.2⟩
      rcases h3 with h3 | h3
      · refine .inl ?_
        have := hB.1.2
        rw [h3] at this
        simpa using this
      · exact .inr h3
  | .fork k r l s, listed, a, w, hB, _, h => by
    simp only [good, Bool.and_eq_true, beq_iff_eq] at hB
    simp only [T.map] at h
    refine ⟨fun h0 => (by rw [hB.1.1.1.1.1] at h0; cases h0), fun i hi => ?_⟩
    rw [hB.1.1.1.1.1] at hi
    cases ho : ops[k]? with
    | none => rw [ho] at h; exact h.elim
    | some o =>
      cases hp : ops[l]? with
      | none => rw [ho, hp] at h; exact h.elim
      | some p =>
        rw [ho, hp] at h
        have hik : i = k ∨ i = l := by simpa using hi
        rcases hik with rfl | rfl
        · exact one ho h.1 fun a' w' hh => ⟨.inr hh.1, any_of_goes hs hQ r _ _ _ hB.1.2 (.inr hh.1) hh.2⟩
        · have hsz : (T.fork k r i s).size = s.size + 1 := by show r.size + 1 = s.size + 1; rw [hB.1.1.1.1.2]
          have he : r.size = s.size := hB.1.1.1.1.2
          rw [he]
          exact one hp h.2 fun a' w' hh => ⟨.inr hh.1, any_of_goes hs hQ s _ _ _ hB.2 (.inr hh.1) hh.2⟩
/-- THE BEGINNING: S is what the region keeps to, but for the last one. -/
theorem start {id : Nat} {a : Act} {w : World} (S : World → Prop) (plan : T Nat) (hm : P.follows .mixedOrders = true) (hs : Region.noSelect ops = true) (hl : plan.size = ops.size)
    (hB : good .any ops plan (Array.replicate ops.size false) = true) (hS : S w.drew)
    (h : goes P ops (NoPanic Q) S (plan.map fun p => ops[p]?) a w.drew) : (Code.region id ops true).wp P Q a w :=
  wp_region_noPanic (wp_region_any hm (by
    have := any_sound _ _ _ _ (any_of_goes (P := P) (Q := NoPanic Q) (S := S) hs (fun _ _ _ _ _ h => h) plan (Array.replicate ops.size false) a w.drew hB (.inr hS) h)
    rw [hl] at this
    exact this))
theorem ends {Q : Exit → Act → World → Prop} {a : Act} {w : World} (h : Q .normal a w) : goes P ops (NoPanic Q) S .done a w := h
theorem take {o : Oper} {r : T (Option Oper)} {a : Act} {w : World} (v : Value) (hw : Region.wanted o (yielded ops a.tmps) = true) (hv : ∀ w, S w → (execOp a.eval o).run P w = .ok (.value v) w)
    (h : goes P ops Q S r (a.put o.dst v) w) : goes P ops Q S (.take (some o) r) a w := ⟨v, .inl ⟨hw, hv⟩, h⟩
theorem carryR {o : Oper} {r : T (Option Oper)} {a : Act} {w : World} (hw : Region.wanted o (yielded ops a.tmps) = true)
    (h : o.wp P a w (fun a' w' => S w' ∧ goes P ops Q S r a' w') Q) : ∃ R : Act → World → Prop, (∀ a' w', R a' w' → S w' ∧ goes P ops Q S r a' w') ∧ (if Region.wanted o (yielded ops a.tmps) then o.wp P a w R Q else R (a.put o.dst undef) w) :=
  ⟨fun a' w' => S w' ∧ goes P ops Q S r a' w', fun _ _ h => h, by rw [if_pos hw]; exact h⟩
theorem only {o : Oper} {r : T (Option Oper)} {a : Act} {w : World} (hw : Region.wanted o (yielded ops a.tmps) = true)
    (h : o.wp P a w (fun a' w' => S w' ∧ goes P ops Q S r a' w') Q) : goes P ops Q S (.only (some o) r) a w :=
  ⟨fun a' w' => S w' ∧ goes P ops Q S r a' w', fun _ _ h => ⟨.inr h.1, h.2⟩, by rw [if_pos hw]; exact h⟩
/-- The last one. -/
theorem last {o : Oper} {Q : Exit → Act → World → Prop} {a : Act} {w : World} (hw : Region.wanted o (yielded ops a.tmps) = true) (h : o.wp P a w (fun a' w' => Q .normal a' w') (NoPanic Q)) : goes P ops (NoPanic Q) S (.only (some o) .done) a w :=
  ⟨fun a' w' => Q .normal a' w', fun _ _ h => ⟨.inl rfl, h⟩, by rw [if_pos hw]; exact h⟩
theorem fork {o p : Oper} {r s : T (Option Oper)} {a : Act} {w : World} (hw : Region.wanted o (yielded ops a.tmps) = true) (hv : Region.wanted p (yielded ops a.tmps) = true)
    (h : o.wp P a w (fun a' w' => S w' ∧ goes P ops Q S r a' w') Q) (k : p.wp P a w (fun a' w' => S w' ∧ goes P ops Q S s a' w') Q) : goes P ops Q S (.fork (some o) r (some p) s) a w := ⟨carryR hw h, carryR hv k⟩
end
end Go.Proofs.YtnmhnjjehglcfaaGreat.LTree

/- The load of a whole row in a tree of orders. -/
namespace Go.Proofs.YtnmhnjjehglcfaaGreat
open Go.RowKit Tree
section
variable {P : Program} {ops : Array Oper} {Q : Exit → Act → World → Prop} {S : World → Prop}
theorem LTree.take_load {o : Oper} {r : T (Option Oper)} {a : Act} {w : World} (ty : TypeId) (x : Operand) (g : Nat) (cs : Array Value) {t : TypeId} {fr : Nat × Nat} {d : TypeDesc}
    (hw : Region.wanted o (yielded ops a.tmps) = true) (ho : o.op = .load ty x) (hx : a.eval x = .pointer (some ⟨g, 0, none⟩)) (hS : ∀ w, S w → w.heap[g]? = some (.cells cs t fr))
    (hu : P.underlying ty = some d) (hd : (match d with | .struct _ | .array _ _ => true | _ => false) = true) (hi : (P.info? ty).map (·.size) = some cs.size)
    (h : LTree.goes P ops Q S r (a.put o.dst (.agg cs)) w) : LTree.goes P ops Q S (.take (some o) r) a w :=
  LTree.take (.agg cs) hw (fun w9 h9 => by
    simp [execOp, ho, hx, Instr.loadAt, Instr.sureAddr, run_loadVar_row w9 g t ty cs fr d (hS w9 h9) hu hd hi]) h
theorem Tree.take_load {o : Oper} {r : T (Option Oper)} {a : Act} {w : World} (ty : TypeId) (x : Operand) (g : Nat) (cs : Array Value) {t : TypeId} {fr : Nat × Nat} {d : TypeDesc}
    (hw : Region.wanted o (yielded ops a.tmps) = true) (ho : o.op = .load ty x) (hx : a.eval x = .pointer (some ⟨g, 0, none⟩)) (hS : ∀ w, S w → w.heap[g]? = some (.cells cs t fr))
    (hu : P.underlying ty = some d) (hd : (match d with | .struct _ | .array _ _ => true | _ => false) = true) (hi : (P.info? ty).map (·.size) = some cs.size)
    (h : Tree.goes P ops Q S r (a.put o.dst (.agg cs)) w) : Tree.goes P ops Q S (.take (some o) r) a w :=
  Tree.take (.agg cs) hw (fun w9 h9 => by
    simp [execOp, ho, hx, Instr.loadAt, Instr.sureAddr, run_loadVar_row w9 g t ty cs fr d (hS w9 h9) hu hd hi]) h
end
end Go.Proofs.YtnmhnjjehglcfaaGreat

/- The walks of Put: the program's and the document's own, for any number and any size. -/
namespace Go.Proofs.YtnmhnjjehglcfaaGreat
open Go.RowKit

theorem info_byte : (Tryz.prog.info? 5).map (fun i => (i.zero, i.size, i.bytes)) = some (some (.int .u8 0), 1, 1) := by kernel_rfl
end Go.Proofs.YtnmhnjjehglcfaaGreat

/- The walk of the maker's value of a block: sixteen bytes out of a number. -/
namespace Go.Proofs.YtnmhnjjehglcfaaGreat
open Go.RowKit

/-- a block's cells as bytes -/
def byF (f : Nat → UInt8) (j : Nat) : Value := .int .u8 ((f j).toNat : Int)
/-- the string of a block of bytes -/
theorem conv_row {w : World} {B k : Nat} {f : Nat → UInt8} (h : w.rowIs B 5 k (byF f)) :
    (convert 64 9 (.slice (some ⟨B, 0, none⟩) k k)).run Tryz.prog w = .ok (.string ⟨((List.range k).map f).toArray⟩) w := by
  have hl : ((List.range k).map f).length = k := by simp
  have h1 := run_convert_bytes_back (P := Tryz.prog) w 64 9 5 ⟨B, 0, none⟩ k ((List.range k).map f) Tryz.underlying64 Tryz.underlying5 Tryz.underlying9 (fun j hj => by
    have hj' : j < k := by simpa using hj
    have e : (⟨B, 0, none⟩ : Addr).add j = ⟨B, j, none⟩ := by unfold Addr.add; split <;> simp_all
    rw [e, h.cell hj']
    simp [byF])
  rwa [hl] at h1
/-- one byte of a block is stored -/
theorem row_put {w : World} {B k i : Nat} {f : Nat → UInt8} (h : w.rowIs B 5 k (byF f)) (c : UInt8) {x : Int} (hx : x = (c.toNat : Int)) :
    (w.setCell ⟨B, i, none⟩ (.int .u8 x)).rowIs B 5 k (byF fun j => if j = i then c else f j) := by
  refine (h.set i _).congr fun j hj => ?_
  unfold byF
  dsimp only
  by_cases he : j = i
  · subst he; rw [if_pos rfl, if_pos rfl, hx]
  · rw [if_neg he, if_neg he]
/-- the bytes of a value -/
def valF (n k : Nat) (j : Nat) : UInt8 := if j < k then UInt8.ofNat ((n + j * n) % 251) else 0
def valueF (n : Nat) (j : Nat) : UInt8 := if j = 0 then UInt8.ofNat (1 + n % 255) else valF n 16 j
def valueL (n : Nat) : List UInt8 := (List.range 16).map (valueF n)
theorem val_next {w : World} {B i n : Nat} (h : w.rowIs B 5 16 (byF (valF n i))) {x : Int} (hx : x = ((UInt8.ofNat ((n + i * n) % 251)).toNat : Int)) :
    (w.setCell ⟨B, i, none⟩ (.int .u8 x)).rowIs B 5 16 (byF (valF n (i + 1))) := by
  refine (row_put h _ hx).congr fun j hj => ?_
  unfold byF valF
  dsimp only
  by_cases he : j = i
  · subst he; rw [if_pos rfl, if_pos (by omega)]
  · rw [if_neg he]
    by_cases h1 : j < i
    · rw [if_pos h1, if_pos (by omega)]
    · rw [if_neg h1, if_neg (by omega)]
theorem byte_small (m : Nat) (h : m < 256) : (m : Int) = ((UInt8.ofNat m).toNat : Int) := by
  rw [UInt8.toNat_ofNat', Nat.mod_eq_of_lt (by simpa using h)]
set_option maxHeartbeats 400000 in
theorem value_any (n : Nat) (hn : n ≤ 100000) (w : World) :
    Calls Tryz.prog 29 #[.int .i64 n] w fun e w' => e = .returned (.string ⟨(valueL n).toArray⟩) ∧ Below w.heap.size w w' := by
  have hmk := fun w => run_make_row' (P := Tryz.prog) 64 5 (.int .u8 0) 1 Tryz.underlying64 info_byte rfl .i64 .i64 16 (by omega) (by omega) w
  simp only [Int.cast_ofNat_Int] at hmk
  have hm : ∀ (i : Nat), i < 16 → ∀ w, Calls Tryz.prog 18 #[.int .i64 ((n : Int) + (i : Int) * (n : Int)), .int .i64 251] w fun e w' => e = .returned (.int .i64 (((n + i * n) % 251 : Nat) : Int)) ∧ w = w' := fun i hi w => by
    have h := mod_any ((n : Int) + (i : Int) * (n : Int)) 251 (by decide) (by decide) w
    rwa [show ((n : Int) + (i : Int) * (n : Int)) % 251 = (((n + i * n) % 251 : Nat) : Int) by simp] at h
  have hm0 : ∀ w, Calls Tryz.prog 18 #[.int .i64 (n : Int), .int .i64 255] w fun e w' => e = .returned (.int .i64 ((n % 255 : Nat) : Int)) ∧ w = w' := fun w => by
    have h := mod_any (n : Int) 255 (by decide) (by decide) w
    rwa [show (n : Int) % 255 = ((n % 255 : Nat) : Int) by simp] at h
  have HM := Lib.hid hm
  have HM0 := Lib.hid hm0
  clear hm hm0
  go_enter Tryz.func29, Tryz.ntmps29
  go_wp2
  clear hmk
  go_loopw [4] (fun b wr => ∃ i : Nat, b = .int .i64 i ∧ i ≤ 16 ∧ wr.rowIs w.heap.size 5 16 (byF (valF n i)) ∧ Below w.heap.size w wr) (fun b _ => 16 - (intOf b).toNat)
  case atStart => exact ⟨0, rfl, by omega, (World.rowIs_made _ _ _ _).congr (by simp [byF, valF]), (Below.refl _ _).alloc (Nat.le_refl _) _⟩
  case round =>
    obtain ⟨i, rfl, hi, hrow, hb⟩ := hrel
    by_cases hlt : i < 16
    · have hc := hrow.cell hlt
      have hf := hrow.frozen i
      have hx : ((n : Int) + (i : Int) * (n : Int)) % 251 = ((UInt8.ofNat ((n + i * n) % 251)).toNat : Int) := by rw [← byte_small _ (by omega)]; simp
      have hnx := Lib.hid (val_next hrow hx)
      have hw : wrap64 ((n : Int) + wrap64 ((i : Int) * (n : Int))) = (n : Int) + (i : Int) * (n : Int) := by
        have h1 : (i : Int) * (n : Int) ≤ 16 * 100000 := by
          have h2 : i * n ≤ 16 * 100000 := Nat.mul_le_mul (by omega) hn
          have h3 : ((i * n : Nat) : Int) ≤ ((16 * 100000 : Nat) : Int) := Int.ofNat_le.2 h2
          simpa using h3
        have h4 : (0 : Int) ≤ (i : Int) * (n : Int) := Int.mul_nonneg (by omega) (by omega)
        unfold wrap64
        omega
      have hmi := HM.out i hlt
      rw [← hw] at hmi
      have HMi := Lib.hid hmi
      clear hmi hw
      clear hrow hx
      go_wp2_with (go_at_call 18; ((with_reducible refine (HMi.out _).mono ?_); rintro e w1 ⟨rfl, rfl⟩))
      go_roundw
      case rel => exact ⟨i + 1, by go_num, by omega, hnx.out, hb.setCell (Nat.le_refl _) _⟩
      case measure => simp [intOf]; omega
    · obtain rfl : i = 16 := by omega
      have hc := hrow.cell (i := 0) (by omega)
      have hf := hrow.frozen 0
      have hx : 1 + (n : Int) % 255 = ((UInt8.ofNat (1 + n % 255)).toNat : Int) := by rw [← byte_small _ (by omega)]; simp
      have hnx := row_put hrow (i := 0) _ hx
      have hcv := conv_row hnx
      have hL : (List.range 16).map (fun j => if j = 0 then UInt8.ofNat (1 + n % 255) else valF n 16 j) = valueL n := rfl
      rw [hL] at hcv
      clear hrow hx hnx hL
      generalize hZ : (⟨(valueL n).toArray⟩ : ByteArray) = Z at hcv
      have HZ := Lib.hid hZ
      clear hZ
      go_wp2_with (go_at_call 18; ((with_reducible refine (HM0.out _).mono ?_); rintro e w1 ⟨rfl, rfl⟩))
      go_ret
      exact ⟨by rw [HZ.out]; rfl, hb.setCell (Nat.le_refl _) _⟩
end Go.Proofs.YtnmhnjjehglcfaaGreat
