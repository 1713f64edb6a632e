/- Texts that belong together, part 2. -/
import Derived.Test.YtljobnfilnbefaaPack1
import Derived.Test.YtljobnfilnbefaaProg
import Derived.Test.YtljobnfilnbefaaRows
import Derived.Shelf.SlSortCmp.WholeK
import Derived.Ground.SlsfProg
import Derived.WalkKit
import Derived.ProofKit
import Derived.Outline
import Derived.Lib.Hide
import Derived.Below
import Derived.IntWalk
import Derived.Deep.RegionHeld3
import Derived.Laws.CopyOwn
import Derived.Deep.AppendLies
import Derived.OwnWalk
import Derived.WalkMore

/-
  DERIVED: THE SHELF's CONTRACTS AT THIS DUMP, IN PLAIN WORDS (tools/lay-plain.mjs out of 'TrySort.lean', which tools/lay-shelf.mjs wrote): THE SAME DECLARATIONS UNDER THE SAME NAMES: 'import', 'namespace', 'open', 'def', 'theorem' AND NOTHING ELSE: no command of the shelf's: FOR A HAND-IN. Each laying: the table of numbers ('.._ren') and one theorem, a field a fact of the dump's own or the kernel's comparison; each contract: ONE APPLICATION.
-/
namespace Go.Proofs
open Go.Shelf
def Try.sortEnt_ren : Go.Shelf.Ren := ⟨fun | 6 => 46 | 15 => 64 | 14 => 63 | 28 => 78 | 29 => 79 | 20 => 70 | 21 => 71 | 22 => 72 | 23 => 73 | 24 => 74 | 25 => 75 | 26 => 76 | 27 => 77 | 46 => 80 | 47 => 81 | 48 => 82 | 49 => 83 | 50 => 84 | 57 => 85 | n => n, fun | 22 => 49 | 24 => 28 | 25 => 81 | 3 => 3 | 39 => 93 | 0 => 0 | 53 => 106 | 55 => 108 | 4 => 4 | 46 => 100 | 45 => 99 | 50 => 86 | 5 => 5 | 9 => 9 | 66 => 109 | 70 => 113 | 76 => 115 | 77 => 116 | n => n, fun | n => n⟩
theorem Try.sortEnt : Go.Proofs.SlLaysF0.n6 Try.prog Try.sortEnt_ren := {
  mixed := by kernel_rfl
  f6 := ⟨Try.f46.name, by decide, Try.func46.trans (congrArg some (by kernel_rfl))⟩
  f14 := ⟨Try.f63.name, by decide, Try.func63.trans (congrArg some (by kernel_rfl))⟩
  f15 := Try.func64.trans (congrArg some (by kernel_rfl))
  f20 := ⟨Try.f70.name, by decide, Try.func70.trans (congrArg some (by kernel_rfl))⟩
  f21 := ⟨Try.f71.name, by decide, Try.func71.trans (congrArg some (by kernel_rfl))⟩
  f22 := ⟨Try.f72.name, by decide, Try.func72.trans (congrArg some (by kernel_rfl))⟩
  f23 := ⟨Try.f73.name, by decide, Try.func73.trans (congrArg some (by kernel_rfl))⟩
  f24 := ⟨Try.f74.name, by decide, Try.func74.trans (congrArg some (by kernel_rfl))⟩
  f25 := ⟨Try.f75.name, by decide, Try.func75.trans (congrArg some (by kernel_rfl))⟩
  f26 := ⟨Try.f76.name, by decide, Try.func76.trans (congrArg some (by kernel_rfl))⟩
  f27 := ⟨Try.f77.name, by decide, Try.func77.trans (congrArg some (by kernel_rfl))⟩
  f28 := Try.func78.trans (congrArg some (by kernel_rfl))
  f29 := Try.func79.trans (congrArg some (by kernel_rfl))
  f46 := ⟨Try.f80.name, by decide, Try.func80.trans (congrArg some (by kernel_rfl))⟩
  f47 := Try.func81.trans (congrArg some (by kernel_rfl))
  f48 := Try.func82.trans (congrArg some (by kernel_rfl))
  f49 := ⟨Try.f83.name, by decide, Try.func83.trans (congrArg some (by kernel_rfl))⟩
  f50 := ⟨Try.f84.name, by decide, Try.func84.trans (congrArg some (by kernel_rfl))⟩
  f57 := ⟨Try.f85.name, by decide, Try.func85.trans (congrArg some (by kernel_rfl))⟩
  t0 := Try.underlying0
  a0 := Try.isAgg0
  z0 := Try.sizeOf0
  v0 := Try.zeroValue0
  t3 := Try.underlying3
  a3 := Try.isAgg3
  z3 := Try.sizeOf3
  v3 := Try.zeroValue3
  t4 := Try.underlying4
  a4 := Try.isAgg4
  z4 := Try.sizeOf4
  v4 := Try.zeroValue4
  t5 := Try.underlying5
  a5 := Try.isAgg5
  z5 := Try.sizeOf5
  v5 := Try.zeroValue5
  t9 := Try.underlying9
  a9 := Try.isAgg9
  z9 := Try.sizeOf9
  v9 := Try.zeroValue9
  t22 := Try.underlying49
  a22 := Try.isAgg49
  z22 := Try.sizeOf49
  v22 := Try.zeroValue49
  t25 := Try.underlying81
  a25 := Try.isAgg81
  z25 := Try.sizeOf81
  v25 := Try.zeroValue81
  t39 := Try.underlying93
  a39 := Try.isAgg93
  z39 := Try.sizeOf93
  v39 := Try.zeroValue93
  t45 := Try.underlying99
  a45 := Try.isAgg99
  z45 := Try.sizeOf99
  v45 := Try.zeroValue99
  t46 := Try.underlying100
  a46 := Try.isAgg100
  z46 := Try.sizeOf100
  v46 := Try.zeroValue100
  t50 := Try.underlying86
  a50 := Try.isAgg86
  z50 := Try.sizeOf86
  v50 := Try.zeroValue86
  t53 := Try.underlying106
  a53 := Try.isAgg106
  z53 := Try.sizeOf106
  v53 := Try.zeroValue106
  t55 := Try.underlying108
  a55 := Try.isAgg108
  z55 := Try.sizeOf108
  v55 := Try.zeroValue108
  t66 := Try.underlying109
  a66 := Try.isAgg109
  z66 := Try.sizeOf109
  v66 := Try.zeroValue109
  t70 := Try.underlying113
  a70 := Try.isAgg113
  z70 := Try.sizeOf113
  v70 := Try.zeroValue113
  t76 := Try.underlying115
  a76 := Try.isAgg115
  z76 := Try.sizeOf115
  v76 := Try.zeroValue115
  t77 := Try.underlying116
  a77 := Try.isAgg116
  z77 := Try.sizeOf116
  v77 := Try.zeroValue116 }
end Go.Proofs

/- The walk of the maker's remainder that is never negative, for every number and every modulus up to 2^62. -/
namespace Go.Proofs.Ytljobnfilnbefaa
open Go.RowKit

theorem mod_val (x m : Int) (hm : 1 ≤ m) (hm2 : m ≤ 4611686018427387904) : (wrap64 (x.tmod m + m)).tmod m = x % m := by
  have h1 : -m < x.tmod m ∧ x.tmod m < m := ⟨by have := Int.lt_tmod_of_pos x (b := m) (by omega); omega, Int.tmod_lt_of_pos x (by omega)⟩
  have w2 : wrap64 (x.tmod m + m) = x.tmod m + m := by unfold wrap64; omega
  rw [w2, Int.tmod_eq_emod_of_nonneg (by omega), Int.add_emod_right]
  rw [Int.tmod_eq_emod]
  split
  · simp
  · rw [show (m.natAbs : Int) = m by omega, Int.sub_emod_right, Int.emod_emod]
theorem ret_i64 {a b : Int} (h : a = b) : Ending.returned (.int .i64 a) = .returned (.int .i64 b) := by rw [h]
theorem mod_any (a m : Int) (h : 1 ≤ m) (hm : m ≤ 4611686018427387904) (w : World) :
    Calls Try.prog 13 #[.int .i64 a, .int .i64 m] w fun e w' => e = .returned (.int .i64 (a % m)) ∧ w = w' := by
  have hv := Lib.hid (mod_val a m h hm)
  go_enter Try.func13, Try.ntmps13
  go_wp2
  go_ret
  exact ⟨ret_i64 hv.out, rfl⟩
end Go.Proofs.Ytljobnfilnbefaa

/- A region that leaves its order open, walked in one order: the operations that yield their value in every world that the region keeps to are taken first, of the others only one may come up at a time. Every law holds for any program. -/
namespace Go.Proofs.Ytljobnfilnbefaa.Plan
open Go.RowKit

/-- Is the plan one: a number with 'true' may come up and is free of the others, one with 'false' is the only one that may come up, and all come up. -/
def good (md : Region.Mode) (ops : Array Oper) : List (Nat × Bool) → Array Bool → Bool
  | [], listed => (Region.ready md ops listed).isEmpty
  | (k, true) :: r, listed => (Region.ready md ops listed).contains k && Region.free md ops listed k && good md ops r (listed.setIfInBounds k true)
  | (k, false) :: r, listed => (Region.ready md ops listed == [k]) && good md ops r (listed.setIfInBounds k true)

/-- The operations of a plan, one after the other. -/
def goes (P : Program) (ops : Array Oper) (Q : Exit → Act → World → Prop) (S : World → Prop) : List (Option Oper × Bool) → Act → World → Prop
  | [], a, w => Q .normal a w
  | (none, _) :: _, _, _ => False
  | (some o, true) :: r, a, w => ∃ v, YieldsIf P ops S o v a ∧ goes P ops Q S r (a.put o.dst v) w
  | (some o, false) :: r, a, w => ∃ R : Act → World → Prop, (∀ a' w', R a' w' → S w' ∧ goes P ops Q S r a' w') ∧ (if Region.wanted o (yielded ops a.tmps) then o.wp P a w R Q else R (a.put o.dst undef) w)

section
variable {P : Program} {ops : Array Oper} {Q : Exit → Act → World → Prop} {S : World → Prop}
theorem held_of_goes (hs : Region.noSelect ops = true) (hQ : ∀ c a d v w, Q (.panic c) (Act.put a d v) w → Q (.panic c) a w) :
    ∀ (plan : List (Nat × Bool)) (listed : Array Bool) (a : Act) (w : World), good .any ops plan listed = true → S w →
      goes P ops Q S (plan.map fun p => (ops[p.1]?, p.2)) a w → wpAnyH P .any ops Q S plan.length listed a w
  | [], listed, a, w, hB, _, h => by
    refine wpAnyH_done ?_ h 0
    simpa [good] using hB
  | (k, true) :: r, listed, a, w, hB, hS, h => by
    simp only [good, Bool.and_eq_true] at hB
    simp only [List.map_cons] at h
    cases ho : ops[k]? with
    | none => rw [ho] at h; exact h.elim
    | some o =>
      rw [ho] at h
      obtain ⟨v, hy, hr⟩ := h
      exact wpAnyH_take ho hs hB.1.2 hB.1.1 (fun c a w => hQ c a o.dst v w) hy hS (held_of_goes hs hQ r _ _ _ hB.2 hS hr)
  | (k, false) :: r, listed, a, w, hB, hS, h => by
    simp only [good, Bool.and_eq_true, beq_iff_eq] at hB
    simp only [List.map_cons] at h
    refine wpAnyH_all hB.1 (by simp) fun i hi => ?_
    have hik : i = k := by simpa using hi
    subst hik
    cases ho : ops[i]? with
    | none => rw [ho] at h; exact h.elim
    | some o =>
      rw [ho] at h
      obtain ⟨R, hR, hr⟩ := h
      have hw : wpOp P ops Q i R a w := by
        unfold wpOp
        simp only [ho]
        split
        · rename_i hw
          rw [if_pos hw] at hr
          exact .inl hr
        · rename_i hw
          rw [if_neg hw] at hr
          exact hr
      exact wpOp_mono (fun a' w' h' => ⟨(hR a' w' h').1, held_of_goes hs hQ r _ _ _ hB.2 (hR a' w' h').1 (hR a' w' h').2⟩) hw
/-- THE BEGINNING: S is what the region keeps to. -/
theorem start {id : Nat} {a : Act} {w : World} (S : World → Prop) (plan : List (Nat × Bool)) (hm : P.follows .mixedOrders = true) (hs : Region.noSelect ops = true) (hl : plan.length = ops.size)
    (hB : good .any ops plan (Array.replicate ops.size false) = true) (hS : S w.drew)
    (h : goes P ops (NoPanic Q) S (plan.map fun p => (ops[p.1]?, p.2)) a w.drew) : (Code.region id ops true).wp P Q a w :=
  wp_region_noPanic (wp_region_held hm (by
    rw [← hl] at hB ⊢
    rw [hl] at hB ⊢
    have := held_of_goes (P := P) (Q := NoPanic Q) (S := S) hs (fun _ _ _ _ _ h => h) plan (Array.replicate ops.size false) a w.drew hB hS h
    rw [hl] at this
    exact this))
/-- THE END. -/
theorem ends {Q : Exit → Act → World → Prop} {a : Act} {w : World} (h : Q .normal a w) : goes P ops (NoPanic Q) S [] a w := h
/-- One that yields its value in every world that meets S. -/
theorem take {o : Oper} {r : List (Option Oper × Bool)} {a : Act} {w : World} (v : Value) (hw : Region.wanted o (yielded ops a.tmps) = true) (hv : ∀ w, S w → (execOp a.eval o).run P w = .ok (.value v) w)
    (h : goes P ops Q S r (a.put o.dst v) w) : goes P ops Q S ((some o, true) :: r) a w := ⟨v, .inl ⟨hw, hv⟩, h⟩
/-- One that is passed over. -/
theorem pass {o : Oper} {r : List (Option Oper × Bool)} {a : Act} {w : World} (hw : Region.wanted o (yielded ops a.tmps) = false)
    (h : goes P ops Q S r (a.put o.dst undef) w) : goes P ops Q S ((some o, true) :: r) a w := ⟨undef, .inr ⟨hw, rfl⟩, h⟩
theorem pass' {o : Oper} {r : List (Option Oper × Bool)} {a : Act} {w : World} (hw : Region.wanted o (yielded ops a.tmps) = false) (hS : S w)
    (h : goes P ops Q S r (a.put o.dst undef) w) : goes P ops Q S ((some o, false) :: r) a w :=
  ⟨fun a' w' => S w' ∧ goes P ops Q S r a' w', fun _ _ h => h, by rw [if_neg (by simp [hw])]; exact ⟨hS, h⟩⟩
/-- One that is carried out. -/
theorem carry {o : Oper} {r : List (Option Oper × Bool)} {a : Act} {w : World} (hw : Region.wanted o (yielded ops a.tmps) = true)
    (h : o.wp P a w (fun a' w' => S w' ∧ goes P ops Q S r a' w') Q) : goes P ops Q S ((some o, false) :: r) a w :=
  ⟨fun a' w' => S w' ∧ goes P ops Q S r a' w', fun _ _ h => h, by rw [if_pos hw]; exact h⟩
/-- A call of a Go function, by its contract. -/
theorem call {o : Oper} {r : List (Option Oper × Bool)} {a : Act} {w : World} (hw : Region.wanted o (yielded ops a.tmps) = true) (f : FuncId) (vs : Array Value) {R : Ending → World → Prop}
    (ho : (execOp a.eval o).run P w = .ok (.enter f vs) w) (hc : Calls P f vs w R)
    (h : ∀ e w', R e w' → ∃ v, e = .returned v ∧ S w' ∧ goes P ops Q S r (a.put o.dst v) w') : goes P ops Q S ((some o, false) :: r) a w :=
  carry hw (by
    unfold Oper.wp
    rw [ho]
    simp only [Oper.upon]
    refine hc.mono fun e w' he => ?_
    obtain ⟨v, rfl, hS, hg⟩ := h e w' he
    exact ⟨hS, hg⟩)
/-- One that makes memory. -/
theorem make {o : Oper} {r : List (Option Oper × Bool)} {a : Act} {w : World} (hw : Region.wanted o (yielded ops a.tmps) = true) (v : Value) (w1 : World)
    (ho : (execOp a.eval o).run P w = .ok (.value v) w1) (hS : S w1) (h : goes P ops Q S r (a.put o.dst v) w1) : goes P ops Q S ((some o, false) :: r) a w :=
  carry hw (by
    unfold Oper.wp
    rw [ho]
    exact ⟨hS, h⟩)
/-- A store of a whole row into a block of its own. -/
theorem store {o : Oper} {r : List (Option Oper × Bool)} {a : Act} {w : World} (hw : Region.wanted o (yielded ops a.tmps) = true) (ty : TypeId) (x y : Operand) (ho : o.op = .store ty x y)
    (g : Nat) (cells : Array Value) (hx : a.eval x = .pointer (some ⟨g, 0, none⟩)) (hy : a.eval y = .agg cells)
    (t : TypeId) (old : Array Value) (hg : w.heap[g]? = some (.cells old t (0, 0))) (hi : (P.info? ty).map (·.size) = some cells.size)
    (hold : old.size = cells.size) (h1 : cells.all (·.oneCell') = true)
    (hS : S (w.setRow g cells)) (h : goes P ops Q S r (a.put o.dst undef) (w.setRow g cells)) : goes P ops Q S ((some o, false) :: r) a w :=
  carry hw (wp_store_row ty x y ho g cells hx hy t old hg hi hold h1 ⟨hS, h⟩)
end

/-- A struct result and a plain one. -/
theorem results_cell_tmp {P : Program} {fn : Func} {p q : Tmp} {ty : TypeId} (h : fn.results = #[.cell p ty, .tmp q]) (tmps : Array Value) (w : World) (g : Nat) (t : TypeId) (cs : Array Value) (fr : Nat × Nat) (d : TypeDesc)
    (hp : tmps.getD p undef = .pointer (some ⟨g, 0, none⟩)) (hg : w.heap[g]? = some (.cells cs t fr))
    (hu : P.underlying ty = some d) (hd : (match d with | .struct _ | .array _ _ => true | _ => false) = true) (hi : (P.info? ty).map (·.size) = some cs.size) :
    (results fn tmps).run P w = .ok (.tuple #[.agg cs, tmps.getD q undef]) w := by
  have hp' : tmps[p]?.getD undef = .pointer (some ⟨g, 0, none⟩) := by simpa using hp
  simp [results, h, hp', asAddr, run_loadVar_row w g t ty cs fr d hg hu hd hi]

/-- A store of a whole row, a load of one, at the operation written out: for an arm that is tried at every operation ('with_reducible'). -/
theorem store_lit {P : Program} {ops : Array Oper} {rest : List Oper} {a : Act} {w : World} {Q : Exit → Act → World → Prop} (ty : TypeId) (x y : Operand) {t' : TypeId} {pos : String} {after : Array Edge}
    (g : Nat) (cells : Array Value) {t : TypeId} {old : Array Value} (hg : w.heap[g]? = some (.cells old t (0, 0))) (hx : a.eval x = .pointer (some ⟨g, 0, none⟩)) (hy : a.eval y = .agg cells)
    (hi : (P.info? ty).map (·.size) = some cells.size) (hold : old.size = cells.size) (h1 : cells.all (·.oneCell') = true)
    (h : wpList P ops Q rest (a.put none undef) (w.setRow g cells)) : wpList P ops Q (⟨none, .store ty x y, t', pos, after, none⟩ :: rest) a w :=
  wpList_store_row rfl ty x y rfl g cells hx hy t old hg hi hold h1 h
theorem load_lit {P : Program} {ops : Array Oper} {rest : List Oper} {a : Act} {w : World} {Q : Exit → Act → World → Prop} (ty : TypeId) (x : Operand) {dst : Option Tmp} {t' : TypeId} {pos : String} {after : Array Edge}
    (g : Nat) {t : TypeId} {cs : Array Value} {fr : Nat × Nat} {d : TypeDesc} (hx : a.eval x = .pointer (some ⟨g, 0, none⟩)) (hg : w.heap[g]? = some (.cells cs t fr))
    (hu : P.underlying ty = some d) (hd : (match d with | .struct _ | .array _ _ => true | _ => false) = true) (hi : (P.info? ty).map (·.size) = some cs.size)
    (h : wpList P ops Q rest (a.put dst (.agg cs)) w) : wpList P ops Q (⟨dst, .load ty x, t', pos, after, none⟩ :: rest) a w :=
  wpList_load_row rfl ty x rfl g hx t cs fr d hg hu hd hi h

/-! what a region keeps to: nothing that it began with has changed -/
theorem bcell {B : Nat} {W w1 : World} (hb : Below B W w1) : (∀ b o, b < B → w1.cell? ⟨b, o, none⟩ = W.cell? ⟨b, o, none⟩) ∧ (∀ b o, b < B → w1.frozen? ⟨b, o, none⟩ = W.frozen? ⟨b, o, none⟩) :=
  ⟨fun b o h => hb.cell (p := ⟨b, o, none⟩) h, fun b o h => hb.frozen (p := ⟨b, o, none⟩) h⟩
/-- what the walk reads off, and what it hands on -/
abbrev Held (B : Nat) (W w' : World) : Prop := (∀ a o, a < B → w'.cell? ⟨a, o, none⟩ = W.cell? ⟨a, o, none⟩) ∧ Below B W w'
theorem held_of {B : Nat} {W w' : World} (h : Below B W w') : Held B W w' := ⟨(bcell h).1, h⟩
theorem held_same {B : Nat} {W : World} : Held B W W.drew := held_of (Below.refl B W).drew
theorem held_new {B : Nat} {W : World} (h : B ≤ W.heap.size) (o : Obj) : Held B W (W.alloc o).drew := held_of ((Below.refl B W).alloc h o).drew
theorem held_call {B : Nat} {W w1 w2 : World} (hB : B ≤ W.heap.size) (h : Held B W w1) (hb : Below w1.heap.size w1 w2) : Held B W w2 := held_of (h.2.trans (hb.mono (Nat.le_trans hB h.2.size)))
theorem held_row {B : Nat} {W w1 : World} (h : Held B W w1) {g : Nat} (hg : B ≤ g) (cs : Array Value) : Held B W (w1.setRow g cs) := held_of (below_setRow h.2 hg cs)
theorem held_alloc {B : Nat} {W w1 : World} (hB : B ≤ W.heap.size) (h : Held B W w1) (o : Obj) : Held B W (w1.alloc o) := held_of (h.2.alloc (Nat.le_trans hB h.2.size) o)
theorem heap_old {B : Nat} {W w1 : World} (h : Below B W w1) {g : Nat} (hg : g < B) {x : Option Obj} (hx : W.heap[g]? = x) : w1.heap[g]? = x := (h.block g hg).trans hx
theorem heap_new1 (w : World) (a b : Obj) : (((w.alloc a).alloc b).drew).heap[w.heap.size + 1]? = some b := by
  show ((w.alloc a).alloc b).heap[w.heap.size + 1]? = some b
  have := heap_alloc_new (w.alloc a) b
  simpa using this
theorem heap_second (w : World) (a b : Obj) : ((w.alloc a).alloc b).heap[w.heap.size + 1]? = some b := heap_new1 w a b
theorem heap_first (w : World) (a b : Obj) : ((w.alloc a).alloc b).heap[w.heap.size]? = some a := (Below.heap_alloc _ _ _ (by simp)).trans (heap_alloc_new w a)
theorem heap_new0 (w : World) (a : Obj) : ((w.alloc a).drew).heap[w.heap.size]? = some a := heap_alloc_new w a
end Go.Proofs.Ytljobnfilnbefaa.Plan

/- A region that leaves its order open, walked by a plan in which two operations may come up at one time. Every law holds for any program. -/
namespace Go.Proofs.Ytljobnfilnbefaa.Tree
open Go.RowKit

/-- A plan: one that may be taken first, one that alone may come up, and two of which either may. -/
inductive T (α : Type) where
  | done
  | take (k : α) (r : T α)
  | only (k : α) (r : T α)
  | fork (k : α) (r : T α) (l : α) (s : T α)
def T.map {α β : Type} (f : α → β) : T α → T β
  | .done => .done
  | .take k r => .take (f k) (r.map f)
  | .only k r => .only (f k) (r.map f)
  | .fork k r l s => .fork (f k) (r.map f) (f l) (s.map f)
def T.size {α : Type} : T α → Nat
  | .done => 0
  | .take _ r => r.size + 1
  | .only _ r => r.size + 1
  | .fork _ r _ _ => r.size + 1
def good (md : Region.Mode) (ops : Array Oper) : T Nat → Array Bool → Bool
  | .done, listed => (Region.ready md ops listed).isEmpty
  | .take k r, listed => (Region.ready md ops listed).contains k && Region.free md ops listed k && good md ops r (listed.setIfInBounds k true)
  | .only k r, listed => (Region.ready md ops listed == [k]) && good md ops r (listed.setIfInBounds k true)
  | .fork k r l s, listed => (Region.ready md ops listed == [k, l]) && (r.size == s.size) && good md ops r (listed.setIfInBounds k true) && good md ops s (listed.setIfInBounds l true)
def goes (P : Program) (ops : Array Oper) (Q : Exit → Act → World → Prop) (S : World → Prop) : T (Option Oper) → Act → World → Prop
  | .done, a, w => Q .normal a w
  | .take none _, _, _ => False
  | .take (some o) r, a, w => ∃ v, YieldsIf P ops S o v a ∧ goes P ops Q S r (a.put o.dst v) w
  | .only none _, _, _ => False
  | .only (some o) r, a, w => ∃ R : Act → World → Prop, (∀ a' w', R a' w' → S w' ∧ goes P ops Q S r a' w') ∧ (if Region.wanted o (yielded ops a.tmps) then o.wp P a w R Q else R (a.put o.dst undef) w)
  | .fork none _ _ _, _, _ => False
  | .fork _ _ none _, _, _ => False
  | .fork (some o) r (some p) s, a, w => (∃ R : Act → World → Prop, (∀ a' w', R a' w' → S w' ∧ goes P ops Q S r a' w') ∧ (if Region.wanted o (yielded ops a.tmps) then o.wp P a w R Q else R (a.put o.dst undef) w)) ∧
      (∃ R : Act → World → Prop, (∀ a' w', R a' w' → S w' ∧ goes P ops Q S s a' w') ∧ (if Region.wanted p (yielded ops a.tmps) then p.wp P a w R Q else R (a.put p.dst undef) w))
section
variable {P : Program} {ops : Array Oper} {Q : Exit → Act → World → Prop} {S : World → Prop}
theorem one {i : Nat} {o : Oper} {a : Act} {w : World} {n : Nat} {listed : Array Bool} {G : Act → World → Prop} (ho : ops[i]? = some o)
    (h : ∃ R : Act → World → Prop, (∀ a' w', R a' w' → S w' ∧ G a' w') ∧ (if Region.wanted o (yielded ops a.tmps) then o.wp P a w R Q else R (a.put o.dst undef) w))
    (hG : ∀ a' w', S w' → G a' w' → wpAnyH P .any ops Q S n (listed.setIfInBounds i true) a' w') :
    wpOp P ops Q i (fun a' w' => S w' ∧ wpAnyH P .any ops Q S n (listed.setIfInBounds i true) a' w') a w := by
  obtain ⟨R, hR, hr⟩ := h
  have hw : wpOp P ops Q i R a w := by
    unfold wpOp
    simp only [ho]
    split
    · rename_i hw
      rw [if_pos hw] at hr
      exact .inl hr
    · rename_i hw
      rw [if_neg hw] at hr
      exact hr
  exact wpOp_mono (fun a' w' h' => ⟨(hR a' w' h').1, hG a' w' (hR a' w' h').1 (hR a' w' h').2⟩) hw
theorem held_of_goes (hs : Region.noSelect ops = true) (hQ : ∀ c a d v w, Q (.panic c) (Act.put a d v) w → Q (.panic c) a w) :
    ∀ (plan : T Nat) (listed : Array Bool) (a : Act) (w : World), good .any ops plan listed = true → S w →
      goes P ops Q S (plan.map fun p => ops[p]?) a w → wpAnyH P .any ops Q S plan.size listed a w
  | .done, listed, a, w, hB, _, h => by
    refine wpAnyH_done ?_ h 0
    simpa [good] using hB
  | .take k r, listed, a, w, hB, hS, h => by
    simp only [good, Bool.and_eq_true] at hB
    simp only [T.map] at h
    cases ho : ops[k]? with
    | none => rw [ho] at h; exact h.elim
    | some o =>
      rw [ho] at h
      obtain ⟨v, hy, hr⟩ := h
      exact wpAnyH_take ho hs hB.1.2 hB.1.1 (fun c a w => hQ c a o.dst v w) hy hS (held_of_goes hs hQ r _ _ _ hB.2 hS hr)
  | .only k r, listed, a, w, hB, hS, h => by
    simp only [good, Bool.and_eq_true, beq_iff_eq] at hB
    simp only [T.map] at h
    refine wpAnyH_all hB.1 (by simp) fun i hi => ?_
    have hik : i = k := by simpa using hi
    subst hik
    cases ho : ops[i]? with
    | none => rw [ho] at h; exact h.elim
    | some o =>
      rw [ho] at h
      exact one ho h fun a' w' hS' hg => held_of_goes hs hQ r _ _ _ hB.2 hS' hg
  | .fork k r l s, listed, a, w, hB, hS, h => by
    simp only [good, Bool.and_eq_true, beq_iff_eq] at hB
    simp only [T.map] at h
    refine wpAnyH_all hB.1.1.1 (by simp) fun i hi => ?_
    cases ho : ops[k]? with
    | none => rw [ho] at h; exact h.elim
    | some o =>
      cases hp : ops[l]? with
      | none => rw [ho, hp] at h; exact h.elim
      | some p =>
        rw [ho, hp] at h
        have hik : i = k ∨ i = l := by simpa using hi
        rcases hik with rfl | rfl
        · exact one ho h.1 fun a' w' hS' hg => held_of_goes hs hQ r _ _ _ hB.1.2 hS' hg
        · have := one (n := s.size) (listed := listed) hp h.2 fun a' w' hS' hg => held_of_goes hs hQ s _ _ _ hB.2 hS' hg
          rw [← hB.1.1.2] at this
          exact this
/-- THE BEGINNING: S is what the region keeps to. -/
theorem start {id : Nat} {a : Act} {w : World} (S : World → Prop) (plan : T Nat) (hm : P.follows .mixedOrders = true) (hs : Region.noSelect ops = true) (hl : plan.size = ops.size)
    (hB : good .any ops plan (Array.replicate ops.size false) = true) (hS : S w.drew)
    (h : goes P ops (NoPanic Q) S (plan.map fun p => ops[p]?) a w.drew) : (Code.region id ops true).wp P Q a w :=
  wp_region_noPanic (wp_region_held hm (by
    have := held_of_goes (P := P) (Q := NoPanic Q) (S := S) hs (fun _ _ _ _ _ h => h) plan (Array.replicate ops.size false) a w.drew hB hS h
    rw [hl] at this
    exact this))
/-- THE END. -/
theorem ends {Q : Exit → Act → World → Prop} {a : Act} {w : World} (h : Q .normal a w) : goes P ops (NoPanic Q) S .done a w := h
theorem take {o : Oper} {r : T (Option Oper)} {a : Act} {w : World} (v : Value) (hw : Region.wanted o (yielded ops a.tmps) = true) (hv : ∀ w, S w → (execOp a.eval o).run P w = .ok (.value v) w)
    (h : goes P ops Q S r (a.put o.dst v) w) : goes P ops Q S (.take (some o) r) a w := ⟨v, .inl ⟨hw, hv⟩, h⟩
theorem carryR {o : Oper} {r : T (Option Oper)} {a : Act} {w : World} (hw : Region.wanted o (yielded ops a.tmps) = true)
    (h : o.wp P a w (fun a' w' => S w' ∧ goes P ops Q S r a' w') Q) : ∃ R : Act → World → Prop, (∀ a' w', R a' w' → S w' ∧ goes P ops Q S r a' w') ∧ (if Region.wanted o (yielded ops a.tmps) then o.wp P a w R Q else R (a.put o.dst undef) w) :=
  ⟨fun a' w' => S w' ∧ goes P ops Q S r a' w', fun _ _ h => h, by rw [if_pos hw]; exact h⟩
theorem only {o : Oper} {r : T (Option Oper)} {a : Act} {w : World} (hw : Region.wanted o (yielded ops a.tmps) = true)
    (h : o.wp P a w (fun a' w' => S w' ∧ goes P ops Q S r a' w') Q) : goes P ops Q S (.only (some o) r) a w := carryR hw h
theorem fork {o p : Oper} {r s : T (Option Oper)} {a : Act} {w : World} (hw : Region.wanted o (yielded ops a.tmps) = true) (hv : Region.wanted p (yielded ops a.tmps) = true)
    (h : o.wp P a w (fun a' w' => S w' ∧ goes P ops Q S r a' w') Q) (k : p.wp P a w (fun a' w' => S w' ∧ goes P ops Q S s a' w') Q) : goes P ops Q S (.fork (some o) r (some p) s) a w := ⟨carryR hw h, carryR hv k⟩
/-- A call of a Go function, by its contract. -/
theorem wp_call {o : Oper} {a : Act} {w : World} {K : Act → World → Prop} (f : FuncId) (vs : Array Value) {R : Ending → World → Prop}
    (ho : (execOp a.eval o).run P w = .ok (.enter f vs) w) (hc : Calls P f vs w R)
    (h : ∀ e w', R e w' → ∃ v, e = .returned v ∧ K (a.put o.dst v) w') : o.wp P a w K Q := by
  unfold Oper.wp
  rw [ho]
  simp only [Oper.upon]
  refine hc.mono fun e w' he => ?_
  obtain ⟨v, rfl, hg⟩ := h e w' he
  exact hg
/-- One that makes memory. -/
theorem wp_make {o : Oper} {a : Act} {w : World} {K : Act → World → Prop} (v : Value) (w1 : World)
    (ho : (execOp a.eval o).run P w = .ok (.value v) w1) (h : K (a.put o.dst v) w1) : o.wp P a w K Q := by
  unfold Oper.wp
  rw [ho]
  exact h
end
end Go.Proofs.Ytljobnfilnbefaa.Tree

/- The store of one number into a cell, as an operation: in a walk and in a plan (Plan.carry). -/
namespace Go.Proofs.Ytljobnfilnbefaa.Put
open Go.RowKit
theorem run_store_int (w : World) (ty : TypeId) (b o : Nat) (k : IntKind) (n : Int) (hc : ∃ u, w.cell? ⟨b, o, none⟩ = some u) (hf : w.frozen? ⟨b, o, none⟩ = false) (hi : (Try.prog.info? ty).map (·.size) = some 1) :
    (storeVar ty ⟨b, o, none⟩ (.int k n)).run Try.prog w = .ok () (w.setCell ⟨b, o, none⟩ (.int k n)) := by
  obtain ⟨u, hu⟩ := hc
  cases hq : Try.prog.info? ty with
  | none => simp [hq] at hi
  | some i =>
    have hs : i.size = 1 := by simpa [hq] using hi
    have hst := run_store Try.prog w ⟨b, o, none⟩ (.int k n) .plain rfl
    rw [hu, hf] at hst
    simp only [Bool.false_eq_true, if_false] at hst
    have ha : (⟨b, o, none⟩ : Addr).add 0 = ⟨b, o, none⟩ := by rw [Addr.add_lit, Nat.add_zero]
    simp [storeVar, sizeOf, typeInfo, hq, Value.cells, hs, storeCells, ha, hst]
theorem wp_store_int {op : Oper} {a : Act} {w : World} {K : Act → World → Prop} {Q : Exit → Act → World → Prop} (ty : TypeId) (x y : Operand) (ho : op.op = .store ty x y)
    (b o : Nat) (k : IntKind) (n : Int) (hx : a.eval x = .pointer (some ⟨b, o, none⟩)) (hy : a.eval y = .int k n) (hc : ∃ u, w.cell? ⟨b, o, none⟩ = some u) (hf : w.frozen? ⟨b, o, none⟩ = false) (hi : (Try.prog.info? ty).map (·.size) = some 1)
    (h : K (a.put op.dst undef) (w.setCell ⟨b, o, none⟩ (.int k n))) : op.wp Try.prog a w K Q := by
  unfold Oper.wp execOp
  simp only [ho, hx, hy, Instr.storeAt, Instr.sureAddr, Sem.run_bind, Sem.run_pure, Result.andThen_ok, run_store_int w ty b o k n hc hf hi]
  exact h
theorem int_info1 : (Try.prog.info? 3).map (·.size) = some 1 := by kernel_rfl
end Go.Proofs.Ytljobnfilnbefaa.Put

/- Lists of entries that lie in memory, in the blocks of a set; lists that the call owns. -/
namespace Go.Proofs.Ytljobnfilnbefaa.Ents
open Go.RowKit Plan EntMath

theorem ent_add_off (x : Addr) (m n : Nat) : x.add (m + (n + 1)) = ⟨(x.add m).block, (x.add m).off + (n + 1), none⟩ := by rw [← Addr.add_add, Addr.add_succ']
theorem ent_add_block (x : Addr) (i : Nat) : (x.add i).block = x.block := by unfold Addr.add; split <;> rfl
/-- two worlds that agree on the blocks of a set -/
def Same (F : Nat → Prop) (w w' : World) : Prop := w.heap.size ≤ w'.heap.size ∧ ∀ b, F b → b < w.heap.size → w'.heap[b]? = w.heap[b]?
theorem Same.cell {F : Nat → Prop} {w w' : World} (h : Same F w w') {x : Addr} {v : Value} (hx : F x.block) (hc : w.cell? x = some v) : w'.cell? x = some v := by
  rw [World.cell?_of_block (h.2 x.block hx (World.block_lt_of_cell? w _ hc)), hc]
theorem Same.refl (F : Nat → Prop) (w : World) : Same F w w := ⟨Nat.le_refl _, fun _ _ _ => rfl⟩
theorem Same.trans {F : Nat → Prop} {a b c : World} (h : Same F a b) (k : Same F b c) : Same F a c := ⟨Nat.le_trans h.1 k.1, fun x hx hl => (k.2 x hx (Nat.lt_of_lt_of_le hl h.1)).trans (h.2 x hx hl)⟩
theorem Same.below {F : Nat → Prop} {w w' : World} (hb : Below w.heap.size w w') : Same F w w' := ⟨hb.size, fun b _ hlt => hb.block b hlt⟩
theorem Same.low {B : Nat} {w w' : World} (hb : Below B w w') : Same (fun b => b < B) w w' := ⟨hb.size, fun b h _ => hb.block b h⟩
theorem Same.alloc {F : Nat → Prop} (w : World) (o : Obj) : Same F w (w.alloc o) := Same.below ((Below.refl _ _).alloc (Nat.le_refl _) o)
theorem Same.row {F : Nat → Prop} {w : World} {r : Nat} (hr : ¬ F r) (cs : Array Value) : Same F w (w.setRow r cs) :=
  ⟨Nat.le_of_eq (by simp [World.setRow]), fun b hb _ => setRow_other _ _ _ _ (fun e => hr (e ▸ hb))⟩
theorem Same.setCell {F : Nat → Prop} {w : World} {p : Addr} (hr : ¬ F p.block) (u : Value) : Same F w (w.setCell p u) :=
  ⟨Nat.le_of_eq (by simp [World.setCell]), fun b hb _ => Below.heap_setCell _ _ _ _ (fun e => hr (e ▸ hb))⟩
/-- the blocks of a set, and all that are made from now on -/
abbrev Plus (F : Nat → Prop) (n : Nat) : Nat → Prop := fun b => F b ∨ n ≤ b

/-- an entry as cells, as a value, as a row; a list of entries as cells -/
def entC (e : Ent) : List Value := [.int .i64 e.block, .int .i64 e.kind, .int .i64 e.version, .int .i64 e.move, .int .i64 e.zone, .int .i64 e.offset]
abbrev entV (e : Ent) : Value := .agg #[.int .i64 e.block, .int .i64 e.kind, .int .i64 e.version, .int .i64 e.move, .int .i64 e.zone, .int .i64 e.offset]
abbrev entRow (b k v m z o : Int) : Obj := .cells #[.int .i64 b, .int .i64 k, .int .i64 v, .int .i64 m, .int .i64 z, .int .i64 o] 28
abbrev placeRow (z o : Int) : Obj := .cells #[.int .i64 z, .int .i64 o] 26
def ents (L : List Ent) : List Value := L.flatMap entC
theorem ents_nil : ents [] = [] := rfl
theorem ents_append (L M : List Ent) : ents (L ++ M) = ents L ++ ents M := by simp [ents]
theorem ents_cons (e : Ent) (L : List Ent) : ents (e :: L) = entC e ++ ents L := rfl
theorem ents_one (e : Ent) : ents [e] = entC e := by simp [ents]
theorem ents_length (L : List Ent) : (ents L).length = L.length * 6 := by
  induction L with
  | nil => rfl
  | cons e L ih => rw [ents_cons, List.length_append, ih, List.length_cons]; simp [entC]; omega
theorem ents_get {L : List Ent} {i : Nat} {e : Ent} (h : L[i]? = some e) (k : Nat) (hk : k < 6) : (ents L)[i * 6 + k]? = (entC e)[k]? := by
  induction L generalizing i with
  | nil => cases h
  | cons x L ih =>
    rw [ents_cons]
    cases i with
    | zero =>
      obtain rfl := Option.some.inj h
      rw [List.getElem?_append_left (by simp [entC]; omega)]
      congr 1
      omega
    | succ i =>
      rw [List.getElem?_append_right (by simp [entC]; omega)]
      have := ih (i := i) h
      rw [← this]
      congr 1
      simp [entC]
      omega
theorem ents_flat (L : List Ent) : ∀ u ∈ ents L, u.oneCell' = true := by
  intro u hu
  obtain ⟨e, _, he⟩ := List.mem_flatMap.1 hu
  simp only [entC, List.mem_cons, List.not_mem_nil, or_false] at he
  rcases he with rfl | rfl | rfl | rfl | rfl | rfl <;> rfl
theorem ents_take (L : List Ent) (k : Nat) : ents (L.take k) = (ents L).take (k * 6) := by
  induction L generalizing k with
  | nil => simp [ents]
  | cons e L ih =>
    cases k with
    | zero => simp [ents]
    | succ k =>
      have hl : (entC e).length = 6 := rfl
      rw [List.take_succ_cons, ents_cons, ents_cons, ih, List.take_append, List.take_of_length_le (l := entC e) (by omega), hl, show (k + 1) * 6 - 6 = k * 6 by omega]
theorem ents_drop (L : List Ent) (k : Nat) : ents (L.drop k) = (ents L).drop (k * 6) := by
  induction L generalizing k with
  | nil => simp [ents]
  | cons e L ih =>
    cases k with
    | zero => simp [ents]
    | succ k =>
      have hl : (entC e).length = 6 := rfl
      rw [List.drop_succ_cons, ents_cons, ih, List.drop_append, List.drop_of_length_le (l := entC e) (by omega), hl, List.nil_append, show (k + 1) * 6 - 6 = k * 6 by omega]
/-- an entry in memory: its cells as a walk spells them -/
abbrev EntAt (w : World) (x : Addr) (i : Nat) (e : Ent) : Prop :=
  w.cell? (x.add (i * 6)) = some (.int .i64 e.block) ∧ w.cell? ⟨(x.add (i * 6)).block, (x.add (i * 6)).off + 1, none⟩ = some (.int .i64 e.kind) ∧
  w.cell? ⟨(x.add (i * 6)).block, (x.add (i * 6)).off + 2, none⟩ = some (.int .i64 e.version) ∧ w.cell? ⟨(x.add (i * 6)).block, (x.add (i * 6)).off + 3, none⟩ = some (.int .i64 e.move) ∧
  w.cell? ⟨(x.add (i * 6)).block, (x.add (i * 6)).off + 4, none⟩ = some (.int .i64 e.zone) ∧ w.cell? ⟨(x.add (i * 6)).block, (x.add (i * 6)).off + 5, none⟩ = some (.int .i64 e.offset)
/-- a list of entries -/
def EList (w : World) (F : Nat → Prop) (a : Option Addr) (len cap : Nat) (L : List Ent) : Prop :=
  (True ∧ len = 0 ∧ cap = 0 ∧ L = []) ∨
  ∃ x, a = some x ∧ len ≤ cap ∧ cap ≤ maxLen ∧ L.length = len ∧ x.block < w.heap.size ∧ F x.block ∧ ∀ j u, (ents L)[j]? = some u → w.cell? (x.add j) = some u
theorem EList.nil (w : World) (F : Nat → Prop) : EList w F none 0 0 [] := .inl ⟨trivial, rfl, rfl, rfl⟩
theorem EList.length {w : World} {F : Nat → Prop} {a : Option Addr} {len cap : Nat} {L : List Ent} (h : EList w F a len cap L) : L.length = len := by
  rcases h with ⟨_, rfl, _, rfl⟩ | ⟨x, _, _, _, h4, _⟩
  · rfl
  · exact h4
theorem EList.cap {w : World} {F : Nat → Prop} {a : Option Addr} {len cap : Nat} {L : List Ent} (h : EList w F a len cap L) : len ≤ cap ∧ cap ≤ maxLen := by
  rcases h with ⟨_, rfl, rfl, rfl⟩ | ⟨x, _, h2, h3, _⟩
  · exact ⟨Nat.le_refl _, Nat.zero_le _⟩
  · exact ⟨h2, h3⟩
theorem EList.on {F : Nat → Prop} {w w' : World} {a : Option Addr} {len cap : Nat} {L : List Ent} (h : EList w F a len cap L) (hw : Same F w w') : EList w' F a len cap L := by
  rcases h with h | ⟨x, h1, h2, h3, h4, h5, h6, h7⟩
  · exact .inl h
  · exact .inr ⟨x, h1, h2, h3, h4, Nat.lt_of_lt_of_le h5 hw.1, h6, fun j u hu => hw.cell (by rw [ent_add_block]; exact h6) (h7 j u hu)⟩
theorem EList.mono {F G : Nat → Prop} {w : World} {a : Option Addr} {len cap : Nat} {L : List Ent} (h : EList w F a len cap L) (hFG : ∀ b, b < w.heap.size → F b → G b) : EList w G a len cap L := by
  rcases h with h | ⟨x, h1, h2, h3, h4, h5, h6, h7⟩
  · exact .inl h
  · exact .inr ⟨x, h1, h2, h3, h4, h5, hFG _ h5 h6, h7⟩
theorem EList.cut {F : Nat → Prop} {w : World} {a : Option Addr} {len cap : Nat} {L : List Ent} (h : EList w F a len cap L) : EList w (fun b => F b ∧ b < w.heap.size) a len cap L := h.mono fun _ hb hf => ⟨hf, hb⟩
theorem ent_at {w : World} {x : Addr} {L : List Ent} (h : ∀ j u, (ents L)[j]? = some u → w.cell? (x.add j) = some u) {i : Nat} {e : Ent} (hi : L[i]? = some e) : EntAt w x i e := by
  refine ⟨h (i * 6) _ ((ents_get hi 0 (by decide))), ?_, ?_, ?_, ?_, ?_⟩
  · rw [← ent_add_off x (i * 6) 0]; exact h _ _ (ents_get hi 1 (by decide))
  · rw [← ent_add_off x (i * 6) 1]; exact h _ _ (ents_get hi 2 (by decide))
  · rw [← ent_add_off x (i * 6) 2]; exact h _ _ (ents_get hi 3 (by decide))
  · rw [← ent_add_off x (i * 6) 3]; exact h _ _ (ents_get hi 4 (by decide))
  · rw [← ent_add_off x (i * 6) 4]; exact h _ _ (ents_get hi 5 (by decide))
theorem EList.ent {w : World} {F : Nat → Prop} {a : Option Addr} {len cap : Nat} {L : List Ent} (h : EList w F a len cap L) (i : Nat) (hi : i < len) : ∃ x e, a = some x ∧ L[i]? = some e ∧ EntAt w x i e := by
  have hl := h.length
  rcases h with ⟨_, rfl, _, _⟩ | ⟨x, h1, _, _, _, _, _, h7⟩
  · omega
  · have he : L[i]? = some (L[i]'(by omega)) := List.getElem?_eq_getElem _
    exact ⟨x, _, h1, he, ent_at h7 he⟩
/-- a list that the call owns is one that is read -/
theorem owns_ents {w : World} {F : Nat → Prop} {B : Nat} {v : Value} {n : Nat} {L : List Ent} (h : w.ownsRow B 28 6 v n (ents L)) (hF : ∀ b, v.ownBlock = some b → F b) : L.length = n ∧ ∃ a cap, v = .slice a n cap ∧ EList w F a n cap L := by
  have hl : L.length = n := by have h1 := h.1; rw [ents_length] at h1; omega
  refine ⟨hl, ?_⟩
  rcases h.2 with ⟨rfl, rfl⟩ | ⟨g, cap, cur, rfl, hb, hg, h1, h2, h3, h4⟩
  · obtain rfl : L = [] := List.length_eq_zero_iff.1 hl
    exact ⟨none, 0, rfl, .inl ⟨trivial, rfl, rfl, rfl⟩⟩
  · exact ⟨_, _, rfl, .inr ⟨_, rfl, h1, h2, hl, (Array.getElem?_eq_some_iff.1 hg).1, hF g rfl, fun j u hu => h.cells (g := g) rfl j u hu⟩⟩
theorem entry_info : (Try.prog.info? 28).map (·.size) = some 6 := by kernel_rfl
theorem place_info : (Try.prog.info? 26).map (·.size) = some 2 := by kernel_rfl
theorem entry_row {w : World} {g : Nat} {a b c d e f : Value} {t : TypeId} {fr : Nat × Nat} (h : w.heap[g]? = some (.cells #[a, b, c, d, e, f] t fr)) :
    w.cell? ⟨g, 0, none⟩ = some a ∧ w.cell? ⟨g, 1, none⟩ = some b ∧ w.cell? ⟨g, 2, none⟩ = some c ∧ w.cell? ⟨g, 3, none⟩ = some d ∧ w.cell? ⟨g, 4, none⟩ = some e ∧ w.cell? ⟨g, 5, none⟩ = some f :=
  ⟨cell_of_row _ _ 0 _ _ _ h, cell_of_row _ _ 1 _ _ _ h, cell_of_row _ _ 2 _ _ _ h, cell_of_row _ _ 3 _ _ _ h, cell_of_row _ _ 4 _ _ _ h, cell_of_row _ _ 5 _ _ _ h⟩
theorem e_on {B g : Nat} {W w1 : World} {x : Option Obj} (hb : Below B W w1) (h : W.heap[g]? = x) (hg : g < B) : w1.heap[g]? = x := heap_old hb hg h
theorem e_al {g : Nat} {w : World} {o : Obj} (h : w.heap[g]? = some o) (o2 : Obj) : (w.alloc o2).heap[g]? = some o := (Below.heap_alloc _ _ _ (Array.getElem?_eq_some_iff.1 h).1).trans h
theorem e_lt {g : Nat} {w : World} {o : Obj} (h : w.heap[g]? = some o) : g < w.heap.size := (Array.getElem?_eq_some_iff.1 h).1
theorem e_b {a b : Bool} (h : a = b) : Ending.returned (.bool a) = .returned (.bool b) := by rw [h]
theorem e_v {x y : Value} (h : x = y) : Ending.returned x = .returned y := by rw [h]
end Go.Proofs.Ytljobnfilnbefaa.Ents

/- The walks of the document's entry, place and Valid. -/
namespace Go.Proofs.Ytljobnfilnbefaa.Ents
open Go.RowKit Plan EntMath
theorem ok_iff {e : Ent} : okE e = true ↔ (e.kind = 1 ∨ e.kind = 2) ∧ 1 ≤ e.version ∧ e.version ≤ 1099511627776 ∧ 0 ≤ e.move ∧ e.move ≤ 255 ∧ 0 ≤ e.block ∧ 0 ≤ e.zone ∧ 0 ≤ e.offset := by
  simp [okE, Bool.and_eq_true, and_assoc]
theorem ok_not {e : Ent} (h : ¬ ((e.kind = 1 ∨ e.kind = 2) ∧ 1 ≤ e.version ∧ e.version ≤ 1099511627776 ∧ 0 ≤ e.move ∧ e.move ≤ 255 ∧ 0 ≤ e.block ∧ 0 ≤ e.zone ∧ 0 ≤ e.offset)) : okE e = false := by
  cases hE : okE e
  · rfl
  · exact absurd (ok_iff.1 hE) h
theorem e_dec {E : Bool} {p : Prop} [Decidable p] (h1 : p → E = true) (h2 : ¬ p → E = false) : decide p = E := by
  by_cases h : p
  · rw [decide_eq_true h, h1 h]
  · rw [decide_eq_false h, h2 h]
set_option maxHeartbeats 1000000 in
theorem refEntry_any (e : Ent) (w : World) :
    Calls Try.prog 55 #[entV e] w fun r w' => r = .returned (.bool (okE e)) ∧ Below w.heap.size w w' := by
  have hy := (@ok_iff e).2
  have hn := @ok_not e
  generalize okE e = E at *
  obtain ⟨b, k, v, m, z, o⟩ := e
  try simp only at hy hn
  have HY := Lib.hid hy
  have HN := Lib.hid hn
  clear hy hn
  go_enter Try.func55, Try.ntmps55
  go_wp2
  all_goals go_ret
  all_goals exact ⟨e_b (by first | exact (HY.out (by omega)).symm | exact (HN.out (by omega)).symm | exact e_dec (fun h => HY.out (by omega)) (fun h => HN.out (by omega))), (Below.refl _ _).alloc (Nat.le_refl _) _⟩
set_option maxHeartbeats 1000000 in
set_option maxRecDepth 20000 in
theorem refPlace_any (F : Nat → Prop) (L : List Ent) (b : Int) (a : Option Addr) (len cap : Nat) (w : World) (hl : EList w F a len cap L) :
    Calls Try.prog 54 #[.slice a len cap, .int .i64 b] w fun r w' => r = .returned (.int .i64 (place L b : Int)) ∧ Below w.heap.size w w' := by
  have hlen := hl.length
  have hat := fun W (h : Below w.heap.size w W) i (hi : i < len) => (hl.on (Same.below h)).ent i hi
  have hmx : len ≤ maxLen := Nat.le_trans hl.cap.1 hl.cap.2
  have hend := fun (k : Nat) (h1 : ∀ i x, i < k → L[i]? = some x → x.block < b) (h2 : ∀ x, L[k]? = some x → b ≤ x.block) (hk : k ≤ L.length) => place_is h1 h2 hk
  have HAT := Lib.hid hat
  have HEND := Lib.hid hend
  unfold maxLen at hmx
  clear hat hl hend
  go_enter Try.func54, Try.ntmps54
  go_wp2_with fail
  go_loopw [5] (fun c wr => ∃ j : Nat, c = .int .i64 (j : Int) ∧ j ≤ len ∧ RowKit.Hid (∀ i x, i < j → L[i]? = some x → x.block < b) ∧ Below w.heap.size w wr) (fun c _ => len - (intOf c).toNat)
  case atStart => exact ⟨0, rfl, by omega, Lib.hid (fun i x h => absurd h (Nat.not_lt_zero _)), Below.refl _ _⟩
  case round =>
    obtain ⟨j, rfl, hj, hbf, hb⟩ := hrel
    by_cases hlt : j < len
    · obtain ⟨x, e, rfl, he, hat⟩ := HAT.out wr hb j hlt
      have hjI : (j : Int) < (len : Int) := by omega
      obtain ⟨c0, -⟩ := hat
      have hn1 := fun (h0 : e.block < b) i y (hi : i < j + 1) (h : L[i]? = some y) => (show y.block < b from by
        rcases Nat.lt_or_ge i j with h1 | h1
        · exact hbf.out i y h1 h
        · obtain rfl : i = j := by omega
          rw [he] at h
          obtain rfl := Option.some.inj h
          exact h0)
      have hn2 := fun (h0 : b ≤ e.block) => (show place L b = j from HEND.out j hbf.out (fun x h => by rw [he] at h; obtain rfl := Option.some.inj h; exact h0) (by omega))
      generalize e.block = B at *
      have HN1 := Lib.hid hn1
      have HN2 := Lib.hid hn2
      clear hn1 hn2 he
      by_cases h0 : B < b
      · go_wp2_with fail
        go_roundw
        case rel => exact ⟨j + 1, by go_num, by omega, Lib.hid (HN1.out h0), hb⟩
        case measure => simp [intOf]; omega
      · have h1 := HN2.out (by omega)
        have hd : decide (B < b) = false := by simpa using h0
        have H1 := Lib.hid h1
        clear h1
        go_wp2_with fail
        go_ret
        exact ⟨by rw [H1.out]; rfl, hb⟩
    · obtain rfl : j = len := by omega
      have h1 := HEND.out j hbf.out (fun x h => by rw [List.getElem?_eq_none (by omega)] at h; cases h) (by omega)
      have H1 := Lib.hid h1
      clear h1
      go_wp2_with fail
      go_ret
      exact ⟨by rw [H1.out]; rfl, hb⟩
end Go.Proofs.Ytljobnfilnbefaa.Ents
