/- Texts that belong together, part 6. -/
import Derived.Test.YthhggiifbldaeaaPack5
import Derived.Test.YthhggiifbldaeaaProg
import Derived.Deep.MidRow

/- A region that leaves its order open, walked by a plan in which two operations may come up at one time, where the last operation may write what the region reads. Every law holds for any program. -/
namespace Go.Proofs.Ythhggiifbldaeaa.LTree
open Go.RowKit Tree Last
def isDone {α : Type} : T α → Bool
  | .done => true
  | _ => false
def good (md : Region.Mode) (ops : Array Oper) : T Nat → Array Bool → Bool
  | .done, listed => (Region.ready md ops listed).isEmpty
  | .take k r, listed => (Region.ready md ops listed).contains k && Region.free md ops listed k && good md ops r (listed.setIfInBounds k true)
  | .only k r, listed => (Region.ready md ops listed == [k]) && (!isDone r || final md ops k) && good md ops r (listed.setIfInBounds k true)
  | .fork k r l s, listed => (Region.ready md ops listed == [k, l]) && (r.size == s.size) && !isDone r && !isDone s && good md ops r (listed.setIfInBounds k true) && good md ops s (listed.setIfInBounds l true)
def goes (P : Program) (ops : Array Oper) (Q : Exit → Act → World → Prop) (S : World → Prop) : T (Option Oper) → Act → World → Prop
  | .done, a, w => Q .normal a w
  | .take none _, _, _ => False
  | .take (some o) r, a, w => ∃ v, YieldsIf P ops S o v a ∧ goes P ops Q S r (a.put o.dst v) w
  | .only none _, _, _ => False
  | .only (some o) r, a, w => ∃ R : Act → World → Prop, (∀ a' w', R a' w' → (isDone r = true ∨ S w') ∧ goes P ops Q S r a' w') ∧ (if Region.wanted o (yielded ops a.tmps) then o.wp P a w R Q else R (a.put o.dst undef) w)
  | .fork none _ _ _, _, _ => False
  | .fork _ _ none _, _, _ => False
  | .fork (some o) r (some p) s, a, w => (∃ R : Act → World → Prop, (∀ a' w', R a' w' → S w' ∧ goes P ops Q S r a' w') ∧ (if Region.wanted o (yielded ops a.tmps) then o.wp P a w R Q else R (a.put o.dst undef) w)) ∧
      (∃ R : Act → World → Prop, (∀ a' w', R a' w' → S w' ∧ goes P ops Q S s a' w') ∧ (if Region.wanted p (yielded ops a.tmps) then p.wp P a w R Q else R (a.put p.dst undef) w))
section
variable {P : Program} {ops : Array Oper} {Q : Exit → Act → World → Prop} {S : World → Prop} {md : Region.Mode}
theorem done_map {r : T Nat} : isDone (r.map fun p => ops[p]?) = isDone r := by cases r <;> rfl
theorem one {i : Nat} {o : Oper} {a : Act} {w : World} {G G' : Act → World → Prop} (ho : ops[i]? = some o)
    (h : ∃ R : Act → World → Prop, (∀ a' w', R a' w' → G a' w') ∧ (if Region.wanted o (yielded ops a.tmps) then o.wp P a w R Q else R (a.put o.dst undef) w))
    (hG : ∀ a' w', G a' w' → G' a' w') : wpOp P ops Q i G' a w := by
  obtain ⟨R, hR, hr⟩ := h
  have hw : wpOp P ops Q i R a w := by
    unfold wpOp
    simp only [ho]
    split
    · rename_i hw
      rw [if_pos hw] at hr
      exact .inl hr
    · rename_i hw
      rw [if_neg hw] at hr
      exact hr
  exact wpOp_mono (fun a' w' h' => hG a' w' (hR a' w' h')) hw
theorem any_of_goes (hs : Region.noSelect ops = true) (hQ : ∀ c a d v w, Q (.panic c) (Act.put a d v) w → Q (.panic c) a w) :
    ∀ (plan : T Nat) (listed : Array Bool) (a : Act) (w : World), good md ops plan listed = true → (isDone plan = true ∨ S w) →
      goes P ops Q S (plan.map fun p => ops[p]?) a w → any P md ops Q S plan.size listed a w
  | .done, listed, a, w, hB, _, h => ⟨by simpa [good] using hB, h⟩
  | .take k r, listed, a, w, hB, hS, h => by
    have hS' : S w := hS.resolve_left (by simp [isDone])
    simp only [good, Bool.and_eq_true] at hB
    simp only [T.map] at h
    cases ho : ops[k]? with
    | none => rw [ho] at h; exact h.elim
    | some o =>
      rw [ho] at h
      obtain ⟨v, hy, hr⟩ := h
      exact any_first ho (Region.noSelect_spec hs) (fun c a w => hQ c a o.dst v w) r.size listed a w (Region.free_spec ho hB.1.2) (by simpa using hB.1.1) hy hS' (any_of_goes hs hQ r _ _ _ hB.2 (.inr hS') hr)
  | .only k r, listed, a, w, hB, _, h => by
    simp only [good, Bool.and_eq_true, beq_iff_eq] at hB
    simp only [T.map] at h
    refine ⟨fun h0 => (by rw [hB.1.1] at h0; cases h0), fun i hi => ?_⟩
    rw [hB.1.1] at hi
    have hik : i = k := by simpa using hi
    subst hik
    cases ho : ops[i]? with
    | none => rw [ho] at h; exact h.elim
    | some o =>
      rw [ho] at h
      refine one ho h fun a' w' hh => ?_
      have h3 : isDone r = true ∨ S w' := by rw [← done_map (ops := ops)]; exact hh.1
      refine ⟨?_, any_of_goes hs hQ r _ _ _ hB.2 h3 hh.2⟩
      rcases h3 with h3 | h3
      · refine .inl ?_
        have := hB.1.2
        rw [h3] at this
        simpa using this
      · exact .inr h3
  | .fork k r l s, listed, a, w, hB, _, h => by
    simp only [good, Bool.and_eq_true, beq_iff_eq] at hB
    simp only [T.map] at h
    refine ⟨fun h0 => (by rw [hB.1.1.1.1.1] at h0; cases h0), fun i hi => ?_⟩
    rw [hB.1.1.1.1.1] at hi
    cases ho : ops[k]? with
    | none => rw [ho] at h; exact h.elim
    | some o =>
      cases hp : ops[l]? with
      | none => rw [ho, hp] at h; exact h.elim
      | some p =>
        rw [ho, hp] at h
        have hik : i = k ∨ i = l := by simpa using hi
        rcases hik with rfl | rfl
        · exact one ho h.1 fun a' w' hh => ⟨.inr hh.1, any_of_goes hs hQ r _ _ _ hB.1.2 (.inr hh.1) hh.2⟩
        · have hsz : (T.fork k r i s).size = s.size + 1 := by show r.size + 1 = s.size + 1; rw [hB.1.1.1.1.2]
          have he : r.size = s.size := hB.1.1.1.1.2
          rw [he]
          exact one hp h.2 fun a' w' hh => ⟨.inr hh.1, any_of_goes hs hQ s _ _ _ hB.2 (.inr hh.1) hh.2⟩
/-- THE BEGINNING: S is what the region keeps to, but for the last one. -/
theorem start {id : Nat} {a : Act} {w : World} (S : World → Prop) (plan : T Nat) (hm : P.follows .mixedOrders = true) (hs : Region.noSelect ops = true) (hl : plan.size = ops.size)
    (hB : good .any ops plan (Array.replicate ops.size false) = true) (hS : S w.drew)
    (h : goes P ops (NoPanic Q) S (plan.map fun p => ops[p]?) a w.drew) : (Code.region id ops true).wp P Q a w :=
  wp_region_noPanic (wp_region_any hm (by
    have := any_sound _ _ _ _ (any_of_goes (P := P) (Q := NoPanic Q) (S := S) hs (fun _ _ _ _ _ h => h) plan (Array.replicate ops.size false) a w.drew hB (.inr hS) h)
    rw [hl] at this
    exact this))
theorem ends {Q : Exit → Act → World → Prop} {a : Act} {w : World} (h : Q .normal a w) : goes P ops (NoPanic Q) S .done a w := h
theorem take {o : Oper} {r : T (Option Oper)} {a : Act} {w : World} (v : Value) (hw : Region.wanted o (yielded ops a.tmps) = true) (hv : ∀ w, S w → (execOp a.eval o).run P w = .ok (.value v) w)
    (h : goes P ops Q S r (a.put o.dst v) w) : goes P ops Q S (.take (some o) r) a w := ⟨v, .inl ⟨hw, hv⟩, h⟩
theorem carryR {o : Oper} {r : T (Option Oper)} {a : Act} {w : World} (hw : Region.wanted o (yielded ops a.tmps) = true)
    (h : o.wp P a w (fun a' w' => S w' ∧ goes P ops Q S r a' w') Q) : ∃ R : Act → World → Prop, (∀ a' w', R a' w' → S w' ∧ goes P ops Q S r a' w') ∧ (if Region.wanted o (yielded ops a.tmps) then o.wp P a w R Q else R (a.put o.dst undef) w) :=
  ⟨fun a' w' => S w' ∧ goes P ops Q S r a' w', fun _ _ h => h, by rw [if_pos hw]; exact h⟩
theorem only {o : Oper} {r : T (Option Oper)} {a : Act} {w : World} (hw : Region.wanted o (yielded ops a.tmps) = true)
    (h : o.wp P a w (fun a' w' => S w' ∧ goes P ops Q S r a' w') Q) : goes P ops Q S (.only (some o) r) a w :=
  ⟨fun a' w' => S w' ∧ goes P ops Q S r a' w', fun _ _ h => ⟨.inr h.1, h.2⟩, by rw [if_pos hw]; exact h⟩
/-- The last one. -/
theorem last {o : Oper} {Q : Exit → Act → World → Prop} {a : Act} {w : World} (hw : Region.wanted o (yielded ops a.tmps) = true) (h : o.wp P a w (fun a' w' => Q .normal a' w') (NoPanic Q)) : goes P ops (NoPanic Q) S (.only (some o) .done) a w :=
  ⟨fun a' w' => Q .normal a' w', fun _ _ h => ⟨.inl rfl, h⟩, by rw [if_pos hw]; exact h⟩
theorem fork {o p : Oper} {r s : T (Option Oper)} {a : Act} {w : World} (hw : Region.wanted o (yielded ops a.tmps) = true) (hv : Region.wanted p (yielded ops a.tmps) = true)
    (h : o.wp P a w (fun a' w' => S w' ∧ goes P ops Q S r a' w') Q) (k : p.wp P a w (fun a' w' => S w' ∧ goes P ops Q S s a' w') Q) : goes P ops Q S (.fork (some o) r (some p) s) a w := ⟨carryR hw h, carryR hv k⟩
end
end Go.Proofs.Ythhggiifbldaeaa.LTree

/- A struct by value out of, and into, the middle of a box's row. -/
namespace Go.Proofs.Ythhggiifbldaeaa
open Go.RowKit
theorem mid_range {w : World} {g : Nat} {cs : Array Value} {t : TypeId} {fr : Nat × Nat} (h : w.heap[g]? = some (.cells cs t fr)) (o k : Nat) : w.rangeAt g o ((cs.toList.drop o).take k) := fun j v hv => by
  rw [List.getElem?_take] at hv
  split at hv
  · rw [List.getElem?_drop] at hv
    rw [cell_of_row w g (o + j) _ _ _ h]
    simpa using hv
  · cases hv
theorem setRow_self (w : World) (g : Nat) {cs : Array Value} {t : TypeId} (h : w.heap[g]? = some (.cells cs t (0, 0))) : w.setRow g cs = w := by
  have hh : (w.setRow g cs).heap = w.heap := by
    apply Array.ext_getElem?
    intro i
    by_cases hi : i = g
    · subst hi
      rw [setRow_heap _ _ _ _ _ _ h, h]
    · exact setRow_other _ _ _ _ hi
  rw [show w.setRow g cs = { w with heap := (w.setRow g cs).heap } from rfl, hh]
section
variable {P : Program} {ops : Array Oper} {rest : List Oper} {a : Act} {w : World} {Q : Exit → Act → World → Prop}
theorem load_mid (ty : TypeId) (x : Operand) {dst : Option Tmp} {t' : TypeId} {pos : String} {after : Array Edge} (g o : Nat) {t : TypeId} {cs : Array Value} {fr : Nat × Nat} {d : TypeDesc} (vs : List Value)
    (hx : a.eval x = .pointer (some ⟨g, o, none⟩)) (hg : w.heap[g]? = some (.cells cs t fr)) (hv : (cs.toList.drop o).take vs.length = vs)
    (hu : P.underlying ty = some d) (hd : d.isRow = true) (hi : (P.info? ty).map (·.size) = some vs.length)
    (h : wpList P ops Q rest (a.put dst (.agg vs.toArray)) w) : wpList P ops Q (⟨dst, .load ty x, t', pos, after, none⟩ :: rest) a w :=
  wpList_load_mid rfl ty x rfl g o hx vs d (by have := mid_range hg o vs.length; rwa [hv] at this) hu hd hi h
theorem load_mid_g (ty : TypeId) (x : Operand) {dst : Option Tmp} {t' : TypeId} {pos : String} {after : Array Edge} {j : Nat} {y : Bool} (g o : Nat) {t : TypeId} {cs : Array Value} {fr : Nat × Nat} {d : TypeDesc} (vs : List Value)
    (hw : Region.wanted ⟨dst, .load ty x, t', pos, after, some (j, y)⟩ (yielded ops a.tmps) = true)
    (hx : a.eval x = .pointer (some ⟨g, o, none⟩)) (hg : w.heap[g]? = some (.cells cs t fr)) (hv : (cs.toList.drop o).take vs.length = vs)
    (hu : P.underlying ty = some d) (hd : d.isRow = true) (hi : (P.info? ty).map (·.size) = some vs.length)
    (h : wpList P ops Q rest (a.put dst (.agg vs.toArray)) w) : wpList P ops Q (⟨dst, .load ty x, t', pos, after, some (j, y)⟩ :: rest) a w :=
  BigFrame.wpList_want hw fun _ hK => wp_load_mid ty x rfl g o hx vs d (by have := mid_range hg o vs.length; rwa [hv] at this) hu hd hi (hK _ _ h)
end
/-- a row into which some cells were put -/
def spl (cs : Array Value) : Nat → List Value → Array Value
  | _, [] => cs
  | o, v :: r => spl (cs.setIfInBounds o v) (o + 1) r
theorem mid_cells {g : Nat} {t : TypeId} : ∀ (vs : List Value) (o : Nat) (cs : Array Value) (w : World), w.heap[g]? = some (.cells cs t (0, 0)) → w.setCells g o vs = w.setRow g (spl cs o vs)
  | [], o, cs, w, h => by
    rw [World.setCells, spl]
    exact (setRow_self w g h).symm
  | v :: r, o, cs, w, h => by
    rw [World.setCells, spl, setCell_eq_setRow _ _ _ _ _ _ _ h, mid_cells r (o + 1) (cs.setIfInBounds o v) _ (setRow_heap _ _ _ _ _ _ h), setRow_setRow]
theorem mid_there {w : World} {g o n : Nat} {cs : Array Value} {t : TypeId} (h : w.heap[g]? = some (.cells cs t (0, 0))) (hn : o + n ≤ cs.size) : w.there g o n := fun j hj => by
  constructor
  · rw [cell_of_row w g (o + j) _ _ _ h, Array.getElem?_eq_getElem (by omega)]
    rfl
  · simp [World.frozen?, h]
theorem store_mid {P : Program} {ops : Array Oper} {rest : List Oper} {a : Act} {w : World} {Q : Exit → Act → World → Prop} (ty : TypeId) (x y : Operand) {t' : TypeId} {pos : String} {after : Array Edge} (g o : Nat) {t : TypeId} {cs : Array Value} (cells cs' : Array Value)
    (hx : a.eval x = .pointer (some ⟨g, o, none⟩)) (hy : a.eval y = .agg cells) (hg : w.heap[g]? = some (.cells cs t (0, 0))) (hn : o + cells.size ≤ cs.size) (hi : (P.info? ty).map (·.size) = some cells.size) (h1 : cells.all (·.oneCell') = true) (hcs : spl cs o cells.toList = cs')
    (h : wpList P ops Q rest (a.put none undef) (w.setRow g cs')) : wpList P ops Q (⟨none, .store ty x y, t', pos, after, none⟩ :: rest) a w :=
  wpList_store_mid rfl ty x y rfl g o cells hx hy (mid_there hg hn) hi h1 (by rw [mid_cells _ _ _ _ hg, hcs]; exact h)
namespace Plan
variable {P : Program} {ops : Array Oper} {Q : Exit → Act → World → Prop} {S : World → Prop}
theorem take_mid {o : Oper} {r : List (Option Oper × Bool)} {a : Act} {w : World} (ty : TypeId) (x : Operand) (g q : Nat) (cs : Array Value) (vs : List Value) {t : TypeId} {fr : Nat × Nat} {d : TypeDesc}
    (hw : Region.wanted o (yielded ops a.tmps) = true) (ho : o.op = .load ty x) (hx : a.eval x = .pointer (some ⟨g, q, none⟩)) (hS : ∀ w, S w → w.heap[g]? = some (.cells cs t fr)) (hv : (cs.toList.drop q).take vs.length = vs)
    (hu : P.underlying ty = some d) (hd : d.isRow = true) (hi : (P.info? ty).map (·.size) = some vs.length)
    (h : goes P ops Q S r (a.put o.dst (.agg vs.toArray)) w) : goes P ops Q S ((some o, true) :: r) a w :=
  take (.agg vs.toArray) hw (fun w9 h9 => by
    have hr := mid_range (hS w9 h9) q vs.length
    rw [hv] at hr
    simp only [execOp, ho, hx, Instr.loadAt, Instr.sureAddr, Sem.run_bind, Sem.run_pure, Result.andThen_ok, run_loadVar_mid w9 g q ty vs d hr hu hd hi]) h
end Plan
end Go.Proofs.Ythhggiifbldaeaa

/- The walks of the layout's own small functions: inRange, planned; and the document's 'of'. -/
namespace Go.Proofs.Ythhggiifbldaeaa
open Go.RowKit LayMath
/-- a configuration as a value -/
def confV (z s b q d h : Int) : Value := .agg #[.int .i64 z, .int .i64 s, .int .i64 b, .int .i64 q, .int .i64 d, .int .i64 h]
/-- a layout as a value -/
def layV (z s b q : Int) : Value := .agg #[.int .i64 (slotN s b), .int .i64 (2 * slotN s b), .int .i64 (dataN z s b), .int .i64 (capN z s b q)]
theorem lay_b {a b : Bool} (h : a = b) : Ending.returned (.bool a) = .returned (.bool b) := by rw [h]
theorem inR_last {z s b q d h : Int} (hn : 3 ≤ s ∧ s ≤ 64 ∧ 1 ≤ z ∧ z ≤ 32 ∧ 1 ≤ b ∧ b ≤ 128 ∧ 1 ≤ q ∧ q ≤ 4 ∧ 1 ≤ d ∧ d ≤ 8 ∧ 1 ≤ h) : decide (h ≤ 8) = inR z s b q d h := by
  cases hE : inR z s b q d h
  · rw [decide_eq_false_iff_not]
    intro h8
    rw [inR_iff.2 (by omega)] at hE
    cases hE
  · exact decide_eq_true (inR_iff.1 hE).2.2.2.2.2.2.2.2.2.2.2
set_option maxHeartbeats 1000000 in
theorem inRange_any (z s b q d h : Int) (w : World) :
    Calls Try.prog 55 #[confV z s b q d h] w fun e w' => e = .returned (.bool (inR z s b q d h)) ∧ Below w.heap.size w w' := by
  unfold confV
  go_enter Try.func55, Try.ntmps55
  go_wp2
  all_goals go_ret
  all_goals exact ⟨lay_b (by first | exact (inR_iff.2 (by omega)).symm | exact (inR_not (by omega)).symm | exact inR_last (by omega)), (Below.refl _ _).alloc (Nat.le_refl _) _⟩
theorem lay_info : (Try.prog.info? 105).map (·.size) = some 4 := by kernel_rfl
theorem conf_info : (Try.prog.info? 26).map (·.size) = some 6 := by kernel_rfl
theorem ret_lay {z s b q : Int} (s1 : 3 ≤ s) (s2 : s ≤ 64) (b1 : 1 ≤ b) (b2 : b ≤ 128) (z1 : 1 ≤ z) (z2 : z ≤ 32) (q1 : 1 ≤ q) (q2 : q ≤ 4) :
    Ending.returned (.agg #[.int .i64 ((b + 2 + s - 1) / s), .int .i64 (wrap64 (2 * ((b + 2 + s - 1) / s))), .int .i64 (wrap64 (z - wrap64 (2 * ((b + 2 + s - 1) / s)))),
      .int .i64 (wrap64 (wrap64 (wrap64 (wrap64 (wrap64 (z - wrap64 (2 * ((b + 2 + s - 1) / s))) - 3) * (s - 1)) - q) - 1))]) = .returned (layV z s b q) := by
  obtain ⟨l1, l2⟩ := slot_bounds s1 s2 b1 b2
  obtain ⟨⟨c1, c2⟩, c3, c4⟩ := cap_bounds s1 s2 b1 b2 z1 z2
  unfold layV capN
  unfold dataN at *
  rw [show (b + 2 + s - 1) / s = slotN s b from rfl]
  generalize slotN s b = k at *
  have e1 : wrap64 (2 * k) = 2 * k := by unfold wrap64; omega
  rw [e1]
  have e2 : wrap64 (z - 2 * k) = z - 2 * k := by unfold wrap64; omega
  rw [e2]
  have e3 : wrap64 (z - 2 * k - 3) = z - 2 * k - 3 := by unfold wrap64; omega
  rw [e3]
  generalize (z - 2 * k - 3) * (s - 1) = p at *
  have e4 : wrap64 p = p := by unfold wrap64; omega
  rw [e4]
  have e5 : wrap64 (p - q) = p - q := by unfold wrap64; omega
  rw [e5]
  have e6 : wrap64 (p - q - 1) = p - q - 1 := by unfold wrap64; omega
  rw [e6]
set_option maxHeartbeats 1000000 in
/-- the layout of numbers that are in their ranges -/
theorem planned_any (z s b q d h : Int) (w : World) (hr : inR z s b q d h = true) :
    Calls Try.prog 56 #[confV z s b q d h] w fun e w' => e = .returned (layV z s b q) ∧ Below w.heap.size w w' := by
  obtain ⟨s1, s2, z1, z2, b1, b2, q1, q2, _⟩ := inR_iff.1 hr
  have he := Lib.hid (ret_lay s1 s2 b1 b2 z1 z2 q1 q2)
  unfold confV
  go_enter Try.func56, Try.ntmps56
  go_wp2
  exact bodyPost_ret (results_cell_row rfl _ _ _ _ _ _ _ rfl (Plan.heap_second _ _ _) Try.underlying105 rfl lay_info) rfl ⟨he.out, ((Below.refl _ _).alloc (Nat.le_refl _) _).alloc (by simp) _⟩
set_option maxHeartbeats 1000000 in
/-- the same, by the document's own -/
theorem layRefof_any (z s b q d h : Int) (w : World) (hr : inR z s b q d h = true) :
    Calls Try.prog 54 #[confV z s b q d h] w fun e w' => e = .returned (layV z s b q) ∧ Below w.heap.size w w' := by
  obtain ⟨s1, s2, z1, z2, b1, b2, q1, q2, _⟩ := inR_iff.1 hr
  have he := Lib.hid (ret_lay s1 s2 b1 b2 z1 z2 q1 q2)
  unfold confV
  go_enter Try.func54, Try.ntmps54
  go_wp2
  exact bodyPost_ret (results_cell_row rfl _ _ _ _ _ _ _ rfl (Plan.heap_second _ _ _) Try.underlying105 rfl lay_info) rfl ⟨he.out, ((Below.refl _ _).alloc (Nat.le_refl _) _).alloc (by simp) _⟩
end Go.Proofs.Ythhggiifbldaeaa

/- The walks of the layout's Of and Check, the program's and the document's own. -/
namespace Go.Proofs.Ythhggiifbldaeaa
open Go.RowKit Plan LayMath
abbrev confRow (z s b q d h : Int) : Obj := .cells #[.int .i64 z, .int .i64 s, .int .i64 b, .int .i64 q, .int .i64 d, .int .i64 h] 26
abbrev layRow (x1 x2 x3 x4 : Int) : Obj := .cells #[.int .i64 x1, .int .i64 x2, .int .i64 x3, .int .i64 x4] 105
/-- what Of gives -/
def layE (z s b q d h : Int) : Value := if errN z s b q d h = 0 then layV z s b q else .agg #[.int .i64 0, .int .i64 0, .int .i64 0, .int .i64 0]
def ofV (z s b q d h : Int) : Value := .tuple #[layE z s b q d h, .int .i64 (errN z s b q d h)]
theorem lay_on {B g : Nat} {W w1 : World} {x : Option Obj} (hb : Below B W w1) (h : W.heap[g]? = x) (hg : g < B) : w1.heap[g]? = x := heap_old hb hg h
theorem lay_al {g : Nat} {w : World} {o : Obj} (h : w.heap[g]? = some o) (o2 : Obj) : (w.alloc o2).heap[g]? = some o := (Below.heap_alloc _ _ _ (Array.getElem?_eq_some_iff.1 h).1).trans h
theorem lay_lt {g : Nat} {w : World} {o : Obj} (h : w.heap[g]? = some o) : g < w.heap.size := (Array.getElem?_eq_some_iff.1 h).1
theorem lay4 {w : World} {g : Nat} {a b c d : Value} {t : TypeId} {fr : Nat × Nat} (h : w.heap[g]? = some (.cells #[a, b, c, d] t fr)) :
    g < w.heap.size ∧ w.cell? ⟨g, 0, none⟩ = some a ∧ w.cell? ⟨g, 1, none⟩ = some b ∧ w.cell? ⟨g, 2, none⟩ = some c ∧ w.cell? ⟨g, 3, none⟩ = some d :=
  ⟨(Array.getElem?_eq_some_iff.1 h).1, cell_of_row _ _ 0 _ _ _ h, cell_of_row _ _ 1 _ _ _ h, cell_of_row _ _ 2 _ _ _ h, cell_of_row _ _ 3 _ _ _ h⟩
theorem conf6 {w : World} {g : Nat} {a b c d e f : Value} {t : TypeId} {fr : Nat × Nat} (h : w.heap[g]? = some (.cells #[a, b, c, d, e, f] t fr)) :
    w.cell? ⟨g, 0, none⟩ = some a ∧ w.cell? ⟨g, 1, none⟩ = some b ∧ w.cell? ⟨g, 2, none⟩ = some c ∧ w.cell? ⟨g, 3, none⟩ = some d ∧ w.cell? ⟨g, 4, none⟩ = some e ∧ w.cell? ⟨g, 5, none⟩ = some f :=
  ⟨cell_of_row _ _ 0 _ _ _ h, cell_of_row _ _ 1 _ _ _ h, cell_of_row _ _ 2 _ _ _ h, cell_of_row _ _ 3 _ _ _ h, cell_of_row _ _ 4 _ _ _ h, cell_of_row _ _ 5 _ _ _ h⟩
/-- a load of a whole row at an operation with a guard that says yes -/
theorem load_lit_g {P : Program} {ops : Array Oper} {rest : List Oper} {a : Act} {w : World} {Q : Exit → Act → World → Prop} (ty : TypeId) (x : Operand) {dst : Option Tmp} {t' : TypeId} {pos : String} {after : Array Edge} {j : Nat} {y : Bool}
    (g : Nat) {t : TypeId} {cs : Array Value} {fr : Nat × Nat} {d : TypeDesc} (hw : Region.wanted ⟨dst, .load ty x, t', pos, after, some (j, y)⟩ (yielded ops a.tmps) = true) (hx : a.eval x = .pointer (some ⟨g, 0, none⟩)) (hg : w.heap[g]? = some (.cells cs t fr))
    (hu : P.underlying ty = some d) (hd : (match d with | .struct _ | .array _ _ => true | _ => false) = true) (hi : (P.info? ty).map (·.size) = some cs.size)
    (h : wpList P ops Q rest (a.put dst (.agg cs)) w) : wpList P ops Q (⟨dst, .load ty x, t', pos, after, some (j, y)⟩ :: rest) a w :=
  BigFrame.wpList_want hw fun _ hK => wp_load_row ty x rfl g hx t cs fr d hg hu hd hi (hK _ _ h)
theorem lay_eq {x y : Value} (h : x = y) : Ending.returned x = .returned y := by rw [h]
theorem of_out {z s b q d h : Int} (hr : inR z s b q d h = false) : ofV z s b q d h = .tuple #[.agg #[.int .i64 0, .int .i64 0, .int .i64 0, .int .i64 0], .int .i64 1] := by
  unfold ofV layE; rw [errN_out hr]; rfl
theorem of_tight {z s b q d h : Int} (hr : inR z s b q d h = true) (hf : dataN z s b < 6 ∨ capN z s b q < 1) : ofV z s b q d h = .tuple #[.agg #[.int .i64 0, .int .i64 0, .int .i64 0, .int .i64 0], .int .i64 11] := by
  unfold ofV layE; rw [errN_tight hr (by unfold fits; rcases hf with h | h <;> simp [h])]; rfl
theorem of_fit {z s b q d h : Int} (hr : inR z s b q d h = true) (h1 : 6 ≤ dataN z s b) (h2 : 1 ≤ capN z s b q) : ofV z s b q d h = .tuple #[layV z s b q, .int .i64 0] := by
  unfold ofV layE; rw [errN_fit hr (by unfold fits; simp; omega)]; rfl
set_option maxHeartbeats 1000000 in
theorem layOf_any (z s b q d h : Int) (w : World) :
    Calls Try.prog 44 #[confV z s b q d h] w fun e w' => e = .returned (ofV z s b q d h) ∧ Below w.heap.size w w' := by
  have hA := ((Below.refl w.heap.size w).alloc (Nat.le_refl _) (confRow z s b q d h)).alloc (by simp) (layRow 0 0 0 0)
  have hr0 := heap_second w (confRow z s b q d h) (layRow 0 0 0 0)
  have hx0 := lay_al (heap_alloc_new w (confRow z s b q d h)) (layRow 0 0 0 0)
  have hi := inRange_any z s b q d h
  have hp := fun w h0 => planned_any z s b q d h w h0
  have ho := @of_out z s b q d h
  have ht := @of_tight z s b q d h
  have hf := @of_fit z s b q d h
  unfold confV at *
  unfold layV at hp hf
  generalize dataN z s b = C at *
  generalize capN z s b q = D at *
  generalize slotN s b = A at *
  generalize 2 * A = B at *
  generalize ofV z s b q d h = R at *
  cases hr : inR z s b q d h
  · rw [hr] at hi ho
    have HI := Lib.hid hi
    have HO := Lib.hid (ho rfl)
    clear hi hp ho ht hf hr
    go_enter Try.func44, Try.ntmps44
    generalize hw0 : (w.alloc (confRow z s b q d h)).alloc (layRow 0 0 0 0) = w0 at *
    go_wp2_with (first
      | ((with_reducible refine Plan.load_lit 26 (.tmp 1) w.heap.size ?_ hx0 Try.underlying26 ?_ ?_ ?_); (· rfl); (· rfl); (· exact conf_info); simp only [Act.put, List.setIfInBounds_toArray, List.set_cons_zero, List.set_cons_succ])
      | (go_at_call 55; ((with_reducible refine (HI.out _).mono ?_); rintro e w1 ⟨rfl, hb1⟩; have hr1 := lay_on hb1 hr0 (lay_lt hr0); have hx1 := lay_on hb1 hx0 (lay_lt hx0); have b1 := hA.trans (hb1.mono hA.size)))
      | ((with_reducible refine Plan.store_lit 105 (.tmp 2) _ (w.heap.size + 1) ?_ hr1 ?_ ?_ ?_ ?_ ?_ ?_); rotate_left; (· rfl); (· rfl); (· exact lay_info); (· rfl); (· simp [Value.oneCell']); simp only [Act.put]))
    exact bodyPost_ret (Plan.results_cell_tmp (p := 2) (q := 3) rfl _ _ _ _ _ _ _ rfl (setRow_heap _ _ _ _ _ _ hr1) Try.underlying105 rfl lay_info) rfl ⟨lay_eq HO.out.symm, below_setRow b1 (show w.heap.size ≤ w.heap.size + 1 by omega) _⟩
  · rw [hr] at hi
    have HI := Lib.hid hi
    have HT := Lib.hid (ht hr)
    have HF := Lib.hid (hf hr)
    have HP := Lib.hid fun w => hp w hr
    clear hi hp ho ht hf hr
    go_enter Try.func44, Try.ntmps44
    generalize hw0 : (w.alloc (confRow z s b q d h)).alloc (layRow 0 0 0 0) = w0 at *
    go_wp2_with (first
      | (go_at_call 55; ((with_reducible refine (HI.out _).mono ?_); rintro e w1 ⟨rfl, hb1⟩; have hr1 := lay_on hb1 hr0 (lay_lt hr0); have hx1 := lay_on hb1 hx0 (lay_lt hx0); have b1 := hA.trans (hb1.mono hA.size)))
      | (go_at_call 56; ((with_reducible refine (HP.out _).mono ?_); rintro e w2 ⟨rfl, hb2⟩; have hr2 := lay_al (lay_on hb2 hr1 (lay_lt hr1)) (layRow A B C D); have b2 := (b1.trans (hb2.mono b1.size)).alloc (b1.trans (hb2.mono b1.size)).size (layRow A B C D); have hx2 := heap_alloc_new w2 (layRow A B C D)))
      | ((with_reducible refine Plan.load_lit 26 (.tmp 1) w.heap.size ?_ hx1 Try.underlying26 ?_ ?_ ?_); (· rfl); (· rfl); (· exact conf_info); simp only [Act.put, List.setIfInBounds_toArray, List.set_cons_zero, List.set_cons_succ])
      | ((with_reducible refine Plan.load_lit 26 (.tmp 1) w.heap.size ?_ hx0 Try.underlying26 ?_ ?_ ?_); (· rfl); (· rfl); (· exact conf_info); simp only [Act.put, List.setIfInBounds_toArray, List.set_cons_zero, List.set_cons_succ])
      | ((with_reducible refine Plan.load_lit 105 (.tmp 4) w2.heap.size ?_ hx2 Try.underlying105 ?_ ?_ ?_); (· rfl); (· rfl); (· exact lay_info); simp only [Act.put, List.setIfInBounds_toArray, List.set_cons_zero, List.set_cons_succ])
      | ((with_reducible refine Plan.store_lit 105 (.tmp 2) _ (w.heap.size + 1) ?_ hr2 ?_ ?_ ?_ ?_ ?_ ?_); rotate_left; (· rfl); (· rfl); (· exact lay_info); (· rfl); (· simp [Value.oneCell']); simp only [Act.put]))
    all_goals exact bodyPost_ret (Plan.results_cell_tmp (p := 2) (q := 3) rfl _ _ _ _ _ _ _ rfl (setRow_heap _ _ _ _ _ _ hr2) Try.underlying105 rfl lay_info) rfl ⟨by first | exact lay_eq (HT.out (.inl (by assumption))).symm | exact lay_eq (HT.out (.inr (by assumption))).symm | exact lay_eq (HT.out (by assumption)).symm | exact lay_eq (HF.out (by omega) (by omega)).symm, below_setRow b2 (show w.heap.size ≤ w.heap.size + 1 by omega) _⟩
end Go.Proofs.Ythhggiifbldaeaa

/- The store of one number into a cell, as an operation: in a walk and in a plan (Plan.carry). -/
namespace Go.Proofs.Ythhggiifbldaeaa.Put
open Go.RowKit
theorem run_store_int (w : World) (ty : TypeId) (b o : Nat) (k : IntKind) (n : Int) (hc : ∃ u, w.cell? ⟨b, o, none⟩ = some u) (hf : w.frozen? ⟨b, o, none⟩ = false) (hi : (Try.prog.info? ty).map (·.size) = some 1) :
    (storeVar ty ⟨b, o, none⟩ (.int k n)).run Try.prog w = .ok () (w.setCell ⟨b, o, none⟩ (.int k n)) := by
  obtain ⟨u, hu⟩ := hc
  cases hq : Try.prog.info? ty with
  | none => simp [hq] at hi
  | some i =>
    have hs : i.size = 1 := by simpa [hq] using hi
    have hst := run_store Try.prog w ⟨b, o, none⟩ (.int k n) .plain rfl
    rw [hu, hf] at hst
    simp only [Bool.false_eq_true, if_false] at hst
    have ha : (⟨b, o, none⟩ : Addr).add 0 = ⟨b, o, none⟩ := by rw [Addr.add_lit, Nat.add_zero]
    simp [storeVar, sizeOf, typeInfo, hq, Value.cells, hs, storeCells, ha, hst]
theorem wp_store_int {op : Oper} {a : Act} {w : World} {K : Act → World → Prop} {Q : Exit → Act → World → Prop} (ty : TypeId) (x y : Operand) (ho : op.op = .store ty x y)
    (b o : Nat) (k : IntKind) (n : Int) (hx : a.eval x = .pointer (some ⟨b, o, none⟩)) (hy : a.eval y = .int k n) (hc : ∃ u, w.cell? ⟨b, o, none⟩ = some u) (hf : w.frozen? ⟨b, o, none⟩ = false) (hi : (Try.prog.info? ty).map (·.size) = some 1)
    (h : K (a.put op.dst undef) (w.setCell ⟨b, o, none⟩ (.int k n))) : op.wp Try.prog a w K Q := by
  unfold Oper.wp execOp
  simp only [ho, hx, hy, Instr.storeAt, Instr.sureAddr, Sem.run_bind, Sem.run_pure, Result.andThen_ok, run_store_int w ty b o k n hc hf hi]
  exact h
theorem int_info1 : (Try.prog.info? 3).map (·.size) = some 1 := by kernel_rfl
end Go.Proofs.Ythhggiifbldaeaa.Put

/- The walks of the layout's Check and IsData and of the document's Check, Of and IsData. -/
namespace Go.Proofs.Ythhggiifbldaeaa
open Go.RowKit Plan LayMath
theorem layE_agg (z s b q d h : Int) : ∃ x1 x2 x3 x4 : Int, layE z s b q d h = .agg #[.int .i64 x1, .int .i64 x2, .int .i64 x3, .int .i64 x4] ∧ (errN z s b q d h = 0 → x1 = slotN s b ∧ x2 = 2 * slotN s b ∧ x3 = dataN z s b ∧ x4 = capN z s b q) := by
  unfold layE layV
  split
  · exact ⟨_, _, _, _, rfl, fun _ => ⟨rfl, rfl, rfl, rfl⟩⟩
  · exact ⟨_, _, _, _, rfl, fun h => by contradiction⟩
set_option maxHeartbeats 2000000 in
theorem layRefCheck_any (z s b q d h : Int) (w : World) :
    Calls Try.prog 53 #[confV z s b q d h] w fun e w' => e = .returned (.int .i64 (errN z s b q d h)) ∧ Below w.heap.size w w' := by
  have hA := (Below.refl w.heap.size w).alloc (Nat.le_refl _) (confRow z s b q d h)
  have hp := fun w h0 => layRefof_any z s b q d h w h0
  have ho := @errN_out z s b q d h
  have ht := @errN_tight z s b q d h
  have hf := @errN_fit z s b q d h
  have hn := @inR_not z s b q d h
  have hy := (@inR_iff z s b q d h).2
  unfold confV at *
  unfold layV at hp
  unfold fits at ht hf
  generalize dataN z s b = C at *
  generalize capN z s b q = D at *
  generalize slotN s b = A at *
  generalize 2 * A = B at *
  generalize errN z s b q d h = R at *
  generalize inR z s b q d h = I at *
  have HO := Lib.hid ho
  have HT := Lib.hid ht
  have HF := Lib.hid hf
  have HN := Lib.hid hn
  have HY := Lib.hid hy
  have HP := Lib.hid hp
  clear hp ho ht hf hn hy
  go_enter Try.func53, Try.ntmps53
  go_wp2_with (first
    | (go_at_call 54; ((with_reducible refine (HP.out _ (HY.out (by omega))).mono ?_); rintro e w1 ⟨rfl, hb1⟩; have b1 := hA.trans (hb1.mono hA.size); have b2 := b1.alloc b1.size (layRow A B C D); have hY : I = true := HY.out (by omega))))
  all_goals go_ret
  all_goals first
    | exact ⟨ret_i64 (HO.out (HN.out (by omega))).symm, hA⟩
    | exact ⟨ret_i64 (HF.out hY (by simp; omega)).symm, b2⟩
    | exact ⟨ret_i64 (HT.out hY (by simp; omega)).symm, b2⟩
end Go.Proofs.Ythhggiifbldaeaa

/- The walks of the document's Of and of IsData, the program's and the document's. -/
namespace Go.Proofs.Ythhggiifbldaeaa
open Go.RowKit Plan LayMath
theorem of_zero {z s b q d h : Int} (he : errN z s b q d h = 0) : ofV z s b q d h = .tuple #[layV z s b q, .int .i64 0] := by
  unfold ofV layE; rw [he]; rfl
theorem of_err {z s b q d h : Int} (he : ¬ errN z s b q d h = 0) : ofV z s b q d h = .tuple #[.agg #[.int .i64 0, .int .i64 0, .int .i64 0, .int .i64 0], .int .i64 (errN z s b q d h)] := by
  unfold ofV layE; rw [if_neg he]
/-- is a zone for data -/
def isN (z s b q d h n : Int) : Bool := decide (errN z s b q d h = 0) && decide (2 * slotN s b ≤ n) && decide (n < z)
theorem isN_no {z s b q d h n : Int} (hE : ¬ errN z s b q d h = 0) : isN z s b q d h n = false := by simp [isN, hE]
theorem isN_yes {z s b q d h n : Int} (hE : errN z s b q d h = 0) : isN z s b q d h n = (decide (2 * slotN s b ≤ n) && decide (n < z)) := by simp [isN, hE]
set_option maxHeartbeats 1000000 in
theorem isData_any (z s b q d h n : Int) (w : World) :
    Calls Try.prog 31 #[confV z s b q d h, .int .i64 n] w fun e w' => e = .returned (.bool (isN z s b q d h n)) ∧ Below w.heap.size w w' := by
  have hA := (Below.refl w.heap.size w).alloc (Nat.le_refl _) (confRow z s b q d h)
  have hx0 := heap_alloc_new w (confRow z s b q d h)
  have ho := layOf_any z s b q d h
  have hn := @isN_no z s b q d h n
  have hy := @isN_yes z s b q d h n
  obtain ⟨x1, x2, x3, x4, hx, hx2⟩ := layE_agg z s b q d h
  unfold ofV at ho
  rw [hx] at ho
  clear hx
  unfold confV at *
  generalize errN z s b q d h = E at *
  generalize isN z s b q d h n = R at *
  have HO := Lib.hid ho
  clear ho
  by_cases hE : E = 0
  · obtain ⟨-, e2, -⟩ := hx2 hE
    rw [← e2] at hy
    have HY := Lib.hid (hy hE)
    clear hn hy hx2 e2
    subst hE
    go_enter Try.func31, Try.ntmps31
    generalize hw0 : w.alloc (confRow z s b q d h) = w0 at *
    go_wp2_with (first
      | (go_at_call 44; ((with_reducible refine (HO.out _).mono ?_); rintro e w1 ⟨rfl, hb1⟩; have b1 := hA.trans (hb1.mono hA.size); have b2 := b1.alloc b1.size (layRow x1 x2 x3 x4); have hx3 := lay_al (lay_on hb1 hx0 (lay_lt hx0)) (layRow x1 x2 x3 x4); obtain ⟨d0, -⟩ := conf6 hx3))
      | ((with_reducible refine Plan.load_lit 26 (.tmp 2) w.heap.size ?_ hx0 Try.underlying26 ?_ ?_ ?_); (· rfl); (· rfl); (· exact conf_info); simp only [Act.put, List.setIfInBounds_toArray, List.set_cons_zero, List.set_cons_succ]))
    all_goals go_ret
    all_goals first
      | exact ⟨lay_b (by rw [HY.out]; have h9 := decide_eq_true (show x2 ≤ n by omega); simp [h9]), b2⟩
      | exact ⟨lay_b (by rw [HY.out]; have h9 := decide_eq_false (show ¬ x2 ≤ n by omega); simp [h9]), b2⟩
  · have HN := Lib.hid (hn hE)
    have hE2 : (E == 0) = false := by simpa using hE
    clear hn hy hx2 hE
    go_enter Try.func31, Try.ntmps31
    generalize hw0 : w.alloc (confRow z s b q d h) = w0 at *
    go_wp2_with (first
      | (go_at_call 44; ((with_reducible refine (HO.out _).mono ?_); rintro e w1 ⟨rfl, hb1⟩; have b1 := hA.trans (hb1.mono hA.size); have b2 := b1.alloc b1.size (layRow x1 x2 x3 x4); have hx3 := lay_al (lay_on hb1 hx0 (lay_lt hx0)) (layRow x1 x2 x3 x4); obtain ⟨d0, -⟩ := conf6 hx3))
      | ((with_reducible refine Plan.load_lit 26 (.tmp 2) w.heap.size ?_ hx0 Try.underlying26 ?_ ?_ ?_); (· rfl); (· rfl); (· exact conf_info); simp only [Act.put, List.setIfInBounds_toArray, List.set_cons_zero, List.set_cons_succ]))
    go_ret
    exact ⟨lay_b HN.out.symm, b2⟩
set_option maxHeartbeats 1000000 in
theorem refIsData_any (z s b q d h n : Int) (w : World) :
    Calls Try.prog 41 #[confV z s b q d h, .int .i64 n] w fun e w' => e = .returned (.bool (isN z s b q d h n)) ∧ Below w.heap.size w w' := by
  have hA := (Below.refl w.heap.size w).alloc (Nat.le_refl _) (confRow z s b q d h)
  have hx0 := heap_alloc_new w (confRow z s b q d h)
  have hi := layRefCheck_any z s b q d h
  have hp := fun w h0 => layRefof_any z s b q d h w h0
  have hI := @errN_zero z s b q d h
  have hn := @isN_no z s b q d h n
  have hy := @isN_yes z s b q d h n
  unfold confV at *
  unfold layV at hp
  generalize dataN z s b = C at *
  generalize capN z s b q = D at *
  generalize slotN s b = A at *
  generalize 2 * A = B at *
  generalize errN z s b q d h = E at *
  generalize isN z s b q d h n = R at *
  by_cases hE : E = 0
  · have HP := Lib.hid fun w => hp w (hI hE).1
    have HY := Lib.hid (hy hE)
    subst hE
    have HI := Lib.hid hi
    clear hi hp hn hy hI
    have hfd : ∀ w : World, (Instr.field 105 (.agg #[.int .i64 A, .int .i64 B, .int .i64 C, .int .i64 D]) 1).run Try.prog w = .ok (.int .i64 B) w := fun _ => by kernel_rfl
    go_enter Try.func41, Try.ntmps41
    generalize hw0 : w.alloc (confRow z s b q d h) = w0 at *
    go_wp2_with (first
      | (go_at_call 53; ((with_reducible refine (HI.out _).mono ?_); rintro e w1 ⟨rfl, hb1⟩; have hx1 := lay_on hb1 hx0 (lay_lt hx0); have b1 := hA.trans (hb1.mono hA.size)))
      | (go_at_call 54; ((with_reducible refine (HP.out _).mono ?_); rintro e w2 ⟨rfl, hb2⟩; have hx2 := lay_on hb2 hx1 (lay_lt hx1); have b2 := b1.trans (hb2.mono b1.size); obtain ⟨d0, -⟩ := conf6 hx2))
      | ((with_reducible refine load_lit_g 26 (.tmp 2) w.heap.size ?_ ?_ hx1 Try.underlying26 ?_ ?_ ?_); (· rfl); (· rfl); (· rfl); (· exact conf_info); simp only [Act.put, List.setIfInBounds_toArray, List.set_cons_zero, List.set_cons_succ])
      | ((with_reducible refine Plan.load_lit 26 (.tmp 2) w.heap.size ?_ hx0 Try.underlying26 ?_ ?_ ?_); (· rfl); (· rfl); (· exact conf_info); simp only [Act.put, List.setIfInBounds_toArray, List.set_cons_zero, List.set_cons_succ]))
    all_goals go_ret
    all_goals first
      | exact ⟨lay_b (by rw [HY.out]; have h9 := decide_eq_true (show B ≤ n by omega); simp [h9]), b2⟩
      | exact ⟨lay_b (by rw [HY.out]; have h9 := decide_eq_false (show ¬ B ≤ n by omega); simp [h9]), b2⟩
  · have HN := Lib.hid (hn hE)
    have hE2 : (E == 0) = false := by simpa using hE
    have HI := Lib.hid hi
    clear hi hp hn hy hI hE
    go_enter Try.func41, Try.ntmps41
    generalize hw0 : w.alloc (confRow z s b q d h) = w0 at *
    go_wp2_with (first
      | (go_at_call 53; ((with_reducible refine (HI.out _).mono ?_); rintro e w1 ⟨rfl, hb1⟩; have b1 := hA.trans (hb1.mono hA.size)))
      | ((with_reducible refine Plan.load_lit 26 (.tmp 2) w.heap.size ?_ hx0 Try.underlying26 ?_ ?_ ?_); (· rfl); (· rfl); (· exact conf_info); simp only [Act.put, List.setIfInBounds_toArray, List.set_cons_zero, List.set_cons_succ]))
    go_ret
    exact ⟨lay_b HN.out.symm, b1⟩
end Go.Proofs.Ythhggiifbldaeaa
