
/- A region that leaves its order open, walked by a plan in which two operations may come up at one time, where the last operation may write what the region reads. Every law holds for any program. -/
import Derived.Test.YtljdepnhhngbeaaBaseLast
import Derived.Test.YtljdepnhhngbeaaBaseTree
namespace Go.Proofs.Ytljdepnhhngbeaa.LTree
open Go.RowKit Tree Last
def isDone {α : Type} : T α → Bool
  | .done => true
  | _ => false
def good (md : Region.Mode) (ops : Array Oper) : T Nat → Array Bool → Bool
  | .done, listed => (Region.ready md ops listed).isEmpty
  | .take k r, listed => (Region.ready md ops listed).contains k && Region.free md ops listed k && good md ops r (listed.setIfInBounds k true)
  | .only k r, listed => (Region.ready md ops listed == [k]) && (!isDone r || final md ops k) && good md ops r (listed.setIfInBounds k true)
  | .fork k r l s, listed => (Region.ready md ops listed == [k, l]) && (r.size == s.size) && !isDone r && !isDone s && good md ops r (listed.setIfInBounds k true) && good md ops s (listed.setIfInBounds l true)
def goes (P : Program) (ops : Array Oper) (Q : Exit → Act → World → Prop) (S : World → Prop) : T (Option Oper) → Act → World → Prop
  | .done, a, w => Q .normal a w
  | .take none _, _, _ => False
  | .take (some o) r, a, w => ∃ v, YieldsIf P ops S o v a ∧ goes P ops Q S r (a.put o.dst v) w
  | .only none _, _, _ => False
  | .only (some o) r, a, w => ∃ R : Act → World → Prop, (∀ a' w', R a' w' → (isDone r = true ∨ S w') ∧ goes P ops Q S r a' w') ∧ (if Region.wanted o (yielded ops a.tmps) then o.wp P a w R Q else R (a.put o.dst undef) w)
  | .fork none _ _ _, _, _ => False
  | .fork _ _ none _, _, _ => False
  | .fork (some o) r (some p) s, a, w => (∃ R : Act → World → Prop, (∀ a' w', R a' w' → S w' ∧ goes P ops Q S r a' w') ∧ (if Region.wanted o (yielded ops a.tmps) then o.wp P a w R Q else R (a.put o.dst undef) w)) ∧
      (∃ R : Act → World → Prop, (∀ a' w', R a' w' → S w' ∧ goes P ops Q S s a' w') ∧ (if Region.wanted p (yielded ops a.tmps) then p.wp P a w R Q else R (a.put p.dst undef) w))
section
variable {P : Program} {ops : Array Oper} {Q : Exit → Act → World → Prop} {S : World → Prop} {md : Region.Mode}
theorem done_map {r : T Nat} : isDone (r.map fun p => ops[p]?) = isDone r := by cases r <;> rfl
theorem one {i : Nat} {o : Oper} {a : Act} {w : World} {G G' : Act → World → Prop} (ho : ops[i]? = some o)
    (h : ∃ R : Act → World → Prop, (∀ a' w', R a' w' → G a' w') ∧ (if Region.wanted o (yielded ops a.tmps) then o.wp P a w R Q else R (a.put o.dst undef) w))
    (hG : ∀ a' w', G a' w' → G' a' w') : wpOp P ops Q i G' a w := by
  obtain ⟨R, hR, hr⟩ := h
  have hw : wpOp P ops Q i R a w := by
    unfold wpOp
    simp only [ho]
    split
    · rename_i hw
      rw [if_pos hw] at hr
      exact .inl hr
    · rename_i hw
      rw [if_neg hw] at hr
      exact hr
  exact wpOp_mono (fun a' w' h' => hG a' w' (hR a' w' h')) hw
theorem any_of_goes (hs : Region.noSelect ops = true) (hQ : ∀ c a d v w, Q (.panic c) (Act.put a d v) w → Q (.panic c) a w) :
    ∀ (plan : T Nat) (listed : Array Bool) (a : Act) (w : World), good md ops plan listed = true → (isDone plan = true ∨ S w) →
      goes P ops Q S (plan.map fun p => ops[p]?) a w → any P md ops Q S plan.size listed a w
  | .done, listed, a, w, hB, _, h => ⟨by simpa [good] using hB, h⟩
  | .take k r, listed, a, w, hB, hS, h => by
    have hS' : S w := hS.resolve_left (by simp [isDone])
    simp only [good, Bool.and_eq_true] at hB
    simp only [T.map] at h
    cases ho : ops[k]? with
    | none => rw [ho] at h; exact h.elim
    | some o =>
      rw [ho] at h
      obtain ⟨v, hy, hr⟩ := h
      exact any_first ho (Region.noSelect_spec hs) (fun c a w => hQ c a o.dst v w) r.size listed a w (Region.free_spec ho hB.1.2) (by simpa using hB.1.1) hy hS' (any_of_goes hs hQ r _ _ _ hB.2 (.inr hS') hr)
  | .only k r, listed, a, w, hB, _, h => by
    simp only [good, Bool.and_eq_true, beq_iff_eq] at hB
    simp only [T.map] at h
    refine ⟨fun h0 => (by rw [hB.1.1] at h0; cases h0), fun i hi => ?_⟩
    rw [hB.1.1] at hi
    have hik : i = k := by simpa using hi
    subst hik
    cases ho : ops[i]? with
    | none => rw [ho] at h; exact h.elim
    | some o =>
      rw [ho] at h
      refine one ho h fun a' w' hh => ?_
      have h3 : isDone r = true ∨ S w' := by rw [← done_map (ops := ops)]; exact hh.1
      refine ⟨?_, any_of_goes hs hQ r _ _ _ hB.2 h3 hh.2⟩
      rcases h3 with h3 | h3
      · refine .inl ?_
        have := hB.1.2
        rw [h3] at this
        simpa using this
      · exact .inr h3
  | .fork k r l s, listed, a, w, hB, _, h => by
    simp only [good, Bool.and_eq_true, beq_iff_eq] at hB
    simp only [T.map] at h
    refine ⟨fun h0 => (by rw [hB.1.1.1.1.1] at h0; cases h0), fun i hi => ?_⟩
    rw [hB.1.1.1.1.1] at hi
    cases ho : ops[k]? with
    | none => rw [ho] at h; exact h.elim
    | some o =>
      cases hp : ops[l]? with
      | none => rw [ho, hp] at h; exact h.elim
      | some p =>
        rw [ho, hp] at h
        have hik : i = k ∨ i = l := by simpa using hi
        rcases hik with rfl | rfl
        · exact one ho h.1 fun a' w' hh => ⟨.inr hh.1, any_of_goes hs hQ r _ _ _ hB.1.2 (.inr hh.1) hh.2⟩
        · have hsz : (T.fork k r i s).size = s.size + 1 := by show r.size + 1 = s.size + 1; rw [hB.1.1.1.1.2]
          have he : r.size = s.size := hB.1.1.1.1.2
          rw [he]
          exact one hp h.2 fun a' w' hh => ⟨.inr hh.1, any_of_goes hs hQ s _ _ _ hB.2 (.inr hh.1) hh.2⟩
/-- THE BEGINNING: S is what the region keeps to, but for the last one. -/
theorem start {id : Nat} {a : Act} {w : World} (S : World → Prop) (plan : T Nat) (hm : P.follows .mixedOrders = true) (hs : Region.noSelect ops = true) (hl : plan.size = ops.size)
    (hB : good .any ops plan (Array.replicate ops.size false) = true) (hS : S w.drew)
    (h : goes P ops (NoPanic Q) S (plan.map fun p => ops[p]?) a w.drew) : (Code.region id ops true).wp P Q a w :=
  wp_region_noPanic (wp_region_any hm (by
    have := any_sound _ _ _ _ (any_of_goes (P := P) (Q := NoPanic Q) (S := S) hs (fun _ _ _ _ _ h => h) plan (Array.replicate ops.size false) a w.drew hB (.inr hS) h)
    rw [hl] at this
    exact this))
theorem ends {Q : Exit → Act → World → Prop} {a : Act} {w : World} (h : Q .normal a w) : goes P ops (NoPanic Q) S .done a w := h
theorem take {o : Oper} {r : T (Option Oper)} {a : Act} {w : World} (v : Value) (hw : Region.wanted o (yielded ops a.tmps) = true) (hv : ∀ w, S w → (execOp a.eval o).run P w = .ok (.value v) w)
    (h : goes P ops Q S r (a.put o.dst v) w) : goes P ops Q S (.take (some o) r) a w := ⟨v, .inl ⟨hw, hv⟩, h⟩
theorem carryR {o : Oper} {r : T (Option Oper)} {a : Act} {w : World} (hw : Region.wanted o (yielded ops a.tmps) = true)
    (h : o.wp P a w (fun a' w' => S w' ∧ goes P ops Q S r a' w') Q) : ∃ R : Act → World → Prop, (∀ a' w', R a' w' → S w' ∧ goes P ops Q S r a' w') ∧ (if Region.wanted o (yielded ops a.tmps) then o.wp P a w R Q else R (a.put o.dst undef) w) :=
  ⟨fun a' w' => S w' ∧ goes P ops Q S r a' w', fun _ _ h => h, by rw [if_pos hw]; exact h⟩
theorem only {o : Oper} {r : T (Option Oper)} {a : Act} {w : World} (hw : Region.wanted o (yielded ops a.tmps) = true)
    (h : o.wp P a w (fun a' w' => S w' ∧ goes P ops Q S r a' w') Q) : goes P ops Q S (.only (some o) r) a w :=
  ⟨fun a' w' => S w' ∧ goes P ops Q S r a' w', fun _ _ h => ⟨.inr h.1, h.2⟩, by rw [if_pos hw]; exact h⟩
/-- The last one. -/
theorem last {o : Oper} {Q : Exit → Act → World → Prop} {a : Act} {w : World} (hw : Region.wanted o (yielded ops a.tmps) = true) (h : o.wp P a w (fun a' w' => Q .normal a' w') (NoPanic Q)) : goes P ops (NoPanic Q) S (.only (some o) .done) a w :=
  ⟨fun a' w' => Q .normal a' w', fun _ _ h => ⟨.inl rfl, h⟩, by rw [if_pos hw]; exact h⟩
theorem fork {o p : Oper} {r s : T (Option Oper)} {a : Act} {w : World} (hw : Region.wanted o (yielded ops a.tmps) = true) (hv : Region.wanted p (yielded ops a.tmps) = true)
    (h : o.wp P a w (fun a' w' => S w' ∧ goes P ops Q S r a' w') Q) (k : p.wp P a w (fun a' w' => S w' ∧ goes P ops Q S s a' w') Q) : goes P ops Q S (.fork (some o) r (some p) s) a w := ⟨carryR hw h, carryR hv k⟩
end
end Go.Proofs.Ytljdepnhhngbeaa.LTree
