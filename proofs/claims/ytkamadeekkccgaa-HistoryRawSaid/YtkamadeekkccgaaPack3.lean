/- Texts that belong together, part 3. -/
import Derived.Test.YtkamadeekkccgaaPack2
import Derived.Deep.MidRow
import Derived.Deep.AppendLies
import Derived.OwnWalk
import Derived.WalkKit
import Derived.WalkMore
import Derived.Lib.Hide

/- The walks of the layout's Of and Check, the program's and the document's own. -/
namespace Go.Proofs.Ytkamadeekkccgaa
open Go.RowKit Plan LayMath
/-- what Of gives -/
def layE (z s b q d h : Int) : Value := if errN z s b q d h = 0 then layV z s b q else .agg #[.int .i64 0, .int .i64 0, .int .i64 0, .int .i64 0]
def ofV (z s b q d h : Int) : Value := .tuple #[layE z s b q d h, .int .i64 (errN z s b q d h)]
theorem lay_on {B g : Nat} {W w1 : World} {x : Option Obj} (hb : Below B W w1) (h : W.heap[g]? = x) (hg : g < B) : w1.heap[g]? = x := heap_old hb hg h
theorem lay_al {g : Nat} {w : World} {o : Obj} (h : w.heap[g]? = some o) (o2 : Obj) : (w.alloc o2).heap[g]? = some o := (Below.heap_alloc _ _ _ (Array.getElem?_eq_some_iff.1 h).1).trans h
theorem lay_lt {g : Nat} {w : World} {o : Obj} (h : w.heap[g]? = some o) : g < w.heap.size := (Array.getElem?_eq_some_iff.1 h).1
theorem lay4 {w : World} {g : Nat} {a b c d : Value} {t : TypeId} {fr : Nat × Nat} (h : w.heap[g]? = some (.cells #[a, b, c, d] t fr)) :
    g < w.heap.size ∧ w.cell? ⟨g, 0, none⟩ = some a ∧ w.cell? ⟨g, 1, none⟩ = some b ∧ w.cell? ⟨g, 2, none⟩ = some c ∧ w.cell? ⟨g, 3, none⟩ = some d :=
  ⟨(Array.getElem?_eq_some_iff.1 h).1, cell_of_row _ _ 0 _ _ _ h, cell_of_row _ _ 1 _ _ _ h, cell_of_row _ _ 2 _ _ _ h, cell_of_row _ _ 3 _ _ _ h⟩
theorem conf6 {w : World} {g : Nat} {a b c d e f : Value} {t : TypeId} {fr : Nat × Nat} (h : w.heap[g]? = some (.cells #[a, b, c, d, e, f] t fr)) :
    w.cell? ⟨g, 0, none⟩ = some a ∧ w.cell? ⟨g, 1, none⟩ = some b ∧ w.cell? ⟨g, 2, none⟩ = some c ∧ w.cell? ⟨g, 3, none⟩ = some d ∧ w.cell? ⟨g, 4, none⟩ = some e ∧ w.cell? ⟨g, 5, none⟩ = some f :=
  ⟨cell_of_row _ _ 0 _ _ _ h, cell_of_row _ _ 1 _ _ _ h, cell_of_row _ _ 2 _ _ _ h, cell_of_row _ _ 3 _ _ _ h, cell_of_row _ _ 4 _ _ _ h, cell_of_row _ _ 5 _ _ _ h⟩
/-- a load of a whole row at an operation with a guard that says yes -/
theorem load_lit_g {P : Program} {ops : Array Oper} {rest : List Oper} {a : Act} {w : World} {Q : Exit → Act → World → Prop} (ty : TypeId) (x : Operand) {dst : Option Tmp} {t' : TypeId} {pos : String} {after : Array Edge} {j : Nat} {y : Bool}
    (g : Nat) {t : TypeId} {cs : Array Value} {fr : Nat × Nat} {d : TypeDesc} (hw : Region.wanted ⟨dst, .load ty x, t', pos, after, some (j, y)⟩ (yielded ops a.tmps) = true) (hx : a.eval x = .pointer (some ⟨g, 0, none⟩)) (hg : w.heap[g]? = some (.cells cs t fr))
    (hu : P.underlying ty = some d) (hd : (match d with | .struct _ | .array _ _ => true | _ => false) = true) (hi : (P.info? ty).map (·.size) = some cs.size)
    (h : wpList P ops Q rest (a.put dst (.agg cs)) w) : wpList P ops Q (⟨dst, .load ty x, t', pos, after, some (j, y)⟩ :: rest) a w :=
  BigFrame.wpList_want hw fun _ hK => wp_load_row ty x rfl g hx t cs fr d hg hu hd hi (hK _ _ h)
theorem lay_eq {x y : Value} (h : x = y) : Ending.returned x = .returned y := by rw [h]
theorem of_out {z s b q d h : Int} (hr : inR z s b q d h = false) : ofV z s b q d h = .tuple #[.agg #[.int .i64 0, .int .i64 0, .int .i64 0, .int .i64 0], .int .i64 1] := by
  unfold ofV layE; rw [errN_out hr]; rfl
theorem of_tight {z s b q d h : Int} (hr : inR z s b q d h = true) (hf : dataN z s b < 6 ∨ capN z s b q < 1) : ofV z s b q d h = .tuple #[.agg #[.int .i64 0, .int .i64 0, .int .i64 0, .int .i64 0], .int .i64 11] := by
  unfold ofV layE; rw [errN_tight hr (by unfold fits; rcases hf with h | h <;> simp [h])]; rfl
theorem of_fit {z s b q d h : Int} (hr : inR z s b q d h = true) (h1 : 6 ≤ dataN z s b) (h2 : 1 ≤ capN z s b q) : ofV z s b q d h = .tuple #[layV z s b q, .int .i64 0] := by
  unfold ofV layE; rw [errN_fit hr (by unfold fits; simp; omega)]; rfl
end Go.Proofs.Ytkamadeekkccgaa

/- A struct by value out of, and into, the middle of a box's row. -/
namespace Go.Proofs.Ytkamadeekkccgaa
open Go.RowKit
theorem mid_range {w : World} {g : Nat} {cs : Array Value} {t : TypeId} {fr : Nat × Nat} (h : w.heap[g]? = some (.cells cs t fr)) (o k : Nat) : w.rangeAt g o ((cs.toList.drop o).take k) := fun j v hv => by
  rw [List.getElem?_take] at hv
  split at hv
  · rw [List.getElem?_drop] at hv
    rw [cell_of_row w g (o + j) _ _ _ h]
    simpa using hv
  · cases hv
theorem setRow_self (w : World) (g : Nat) {cs : Array Value} {t : TypeId} (h : w.heap[g]? = some (.cells cs t (0, 0))) : w.setRow g cs = w := by
  have hh : (w.setRow g cs).heap = w.heap := by
    apply Array.ext_getElem?
    intro i
    by_cases hi : i = g
    · subst hi
      rw [setRow_heap _ _ _ _ _ _ h, h]
    · exact setRow_other _ _ _ _ hi
  rw [show w.setRow g cs = { w with heap := (w.setRow g cs).heap } from rfl, hh]
section
variable {P : Program} {ops : Array Oper} {rest : List Oper} {a : Act} {w : World} {Q : Exit → Act → World → Prop}
theorem load_mid (ty : TypeId) (x : Operand) {dst : Option Tmp} {t' : TypeId} {pos : String} {after : Array Edge} (g o : Nat) {t : TypeId} {cs : Array Value} {fr : Nat × Nat} {d : TypeDesc} (vs : List Value)
    (hx : a.eval x = .pointer (some ⟨g, o, none⟩)) (hg : w.heap[g]? = some (.cells cs t fr)) (hv : (cs.toList.drop o).take vs.length = vs)
    (hu : P.underlying ty = some d) (hd : d.isRow = true) (hi : (P.info? ty).map (·.size) = some vs.length)
    (h : wpList P ops Q rest (a.put dst (.agg vs.toArray)) w) : wpList P ops Q (⟨dst, .load ty x, t', pos, after, none⟩ :: rest) a w :=
  wpList_load_mid rfl ty x rfl g o hx vs d (by have := mid_range hg o vs.length; rwa [hv] at this) hu hd hi h
theorem load_mid_g (ty : TypeId) (x : Operand) {dst : Option Tmp} {t' : TypeId} {pos : String} {after : Array Edge} {j : Nat} {y : Bool} (g o : Nat) {t : TypeId} {cs : Array Value} {fr : Nat × Nat} {d : TypeDesc} (vs : List Value)
    (hw : Region.wanted ⟨dst, .load ty x, t', pos, after, some (j, y)⟩ (yielded ops a.tmps) = true)
    (hx : a.eval x = .pointer (some ⟨g, o, none⟩)) (hg : w.heap[g]? = some (.cells cs t fr)) (hv : (cs.toList.drop o).take vs.length = vs)
    (hu : P.underlying ty = some d) (hd : d.isRow = true) (hi : (P.info? ty).map (·.size) = some vs.length)
    (h : wpList P ops Q rest (a.put dst (.agg vs.toArray)) w) : wpList P ops Q (⟨dst, .load ty x, t', pos, after, some (j, y)⟩ :: rest) a w :=
  BigFrame.wpList_want hw fun _ hK => wp_load_mid ty x rfl g o hx vs d (by have := mid_range hg o vs.length; rwa [hv] at this) hu hd hi (hK _ _ h)
end
/-- a row into which some cells were put -/
def spl (cs : Array Value) : Nat → List Value → Array Value
  | _, [] => cs
  | o, v :: r => spl (cs.setIfInBounds o v) (o + 1) r
theorem mid_cells {g : Nat} {t : TypeId} : ∀ (vs : List Value) (o : Nat) (cs : Array Value) (w : World), w.heap[g]? = some (.cells cs t (0, 0)) → w.setCells g o vs = w.setRow g (spl cs o vs)
  | [], o, cs, w, h => by
    rw [World.setCells, spl]
    exact (setRow_self w g h).symm
  | v :: r, o, cs, w, h => by
    rw [World.setCells, spl, setCell_eq_setRow _ _ _ _ _ _ _ h, mid_cells r (o + 1) (cs.setIfInBounds o v) _ (setRow_heap _ _ _ _ _ _ h), setRow_setRow]
theorem mid_there {w : World} {g o n : Nat} {cs : Array Value} {t : TypeId} (h : w.heap[g]? = some (.cells cs t (0, 0))) (hn : o + n ≤ cs.size) : w.there g o n := fun j hj => by
  constructor
  · rw [cell_of_row w g (o + j) _ _ _ h, Array.getElem?_eq_getElem (by omega)]
    rfl
  · simp [World.frozen?, h]
theorem store_mid {P : Program} {ops : Array Oper} {rest : List Oper} {a : Act} {w : World} {Q : Exit → Act → World → Prop} (ty : TypeId) (x y : Operand) {t' : TypeId} {pos : String} {after : Array Edge} (g o : Nat) {t : TypeId} {cs : Array Value} (cells cs' : Array Value)
    (hx : a.eval x = .pointer (some ⟨g, o, none⟩)) (hy : a.eval y = .agg cells) (hg : w.heap[g]? = some (.cells cs t (0, 0))) (hn : o + cells.size ≤ cs.size) (hi : (P.info? ty).map (·.size) = some cells.size) (h1 : cells.all (·.oneCell') = true) (hcs : spl cs o cells.toList = cs')
    (h : wpList P ops Q rest (a.put none undef) (w.setRow g cs')) : wpList P ops Q (⟨none, .store ty x y, t', pos, after, none⟩ :: rest) a w :=
  wpList_store_mid rfl ty x y rfl g o cells hx hy (mid_there hg hn) hi h1 (by rw [mid_cells _ _ _ _ hg, hcs]; exact h)
namespace Plan
variable {P : Program} {ops : Array Oper} {Q : Exit → Act → World → Prop} {S : World → Prop}
theorem take_mid {o : Oper} {r : List (Option Oper × Bool)} {a : Act} {w : World} (ty : TypeId) (x : Operand) (g q : Nat) (cs : Array Value) (vs : List Value) {t : TypeId} {fr : Nat × Nat} {d : TypeDesc}
    (hw : Region.wanted o (yielded ops a.tmps) = true) (ho : o.op = .load ty x) (hx : a.eval x = .pointer (some ⟨g, q, none⟩)) (hS : ∀ w, S w → w.heap[g]? = some (.cells cs t fr)) (hv : (cs.toList.drop q).take vs.length = vs)
    (hu : P.underlying ty = some d) (hd : d.isRow = true) (hi : (P.info? ty).map (·.size) = some vs.length)
    (h : goes P ops Q S r (a.put o.dst (.agg vs.toArray)) w) : goes P ops Q S ((some o, true) :: r) a w :=
  take (.agg vs.toArray) hw (fun w9 h9 => by
    have hr := mid_range (hS w9 h9) q vs.length
    rw [hv] at hr
    simp only [execOp, ho, hx, Instr.loadAt, Instr.sureAddr, Sem.run_bind, Sem.run_pure, Result.andThen_ok, run_loadVar_mid w9 g q ty vs d hr hu hd hi]) h
end Plan
end Go.Proofs.Ytkamadeekkccgaa

/- Lists of entries that lie in memory, in the blocks of a set; lists that the call owns. -/
namespace Go.Proofs.Ytkamadeekkccgaa.Ents
open Go.RowKit Plan EntMath

theorem ent_add_off (x : Addr) (m n : Nat) : x.add (m + (n + 1)) = ⟨(x.add m).block, (x.add m).off + (n + 1), none⟩ := by rw [← Addr.add_add, Addr.add_succ']
theorem ent_add_block (x : Addr) (i : Nat) : (x.add i).block = x.block := by unfold Addr.add; split <;> rfl
/-- two worlds that agree on the blocks of a set -/
def Same (F : Nat → Prop) (w w' : World) : Prop := w.heap.size ≤ w'.heap.size ∧ ∀ b, F b → b < w.heap.size → w'.heap[b]? = w.heap[b]?
theorem Same.cell {F : Nat → Prop} {w w' : World} (h : Same F w w') {x : Addr} {v : Value} (hx : F x.block) (hc : w.cell? x = some v) : w'.cell? x = some v := by
  rw [World.cell?_of_block (h.2 x.block hx (World.block_lt_of_cell? w _ hc)), hc]
theorem Same.refl (F : Nat → Prop) (w : World) : Same F w w := ⟨Nat.le_refl _, fun _ _ _ => rfl⟩
theorem Same.trans {F : Nat → Prop} {a b c : World} (h : Same F a b) (k : Same F b c) : Same F a c := ⟨Nat.le_trans h.1 k.1, fun x hx hl => (k.2 x hx (Nat.lt_of_lt_of_le hl h.1)).trans (h.2 x hx hl)⟩
theorem Same.below {F : Nat → Prop} {w w' : World} (hb : Below w.heap.size w w') : Same F w w' := ⟨hb.size, fun b _ hlt => hb.block b hlt⟩
theorem Same.low {B : Nat} {w w' : World} (hb : Below B w w') : Same (fun b => b < B) w w' := ⟨hb.size, fun b h _ => hb.block b h⟩
theorem Same.alloc {F : Nat → Prop} (w : World) (o : Obj) : Same F w (w.alloc o) := Same.below ((Below.refl _ _).alloc (Nat.le_refl _) o)
theorem Same.row {F : Nat → Prop} {w : World} {r : Nat} (hr : ¬ F r) (cs : Array Value) : Same F w (w.setRow r cs) :=
  ⟨Nat.le_of_eq (by simp [World.setRow]), fun b hb _ => setRow_other _ _ _ _ (fun e => hr (e ▸ hb))⟩
theorem Same.setCell {F : Nat → Prop} {w : World} {p : Addr} (hr : ¬ F p.block) (u : Value) : Same F w (w.setCell p u) :=
  ⟨Nat.le_of_eq (by simp [World.setCell]), fun b hb _ => Below.heap_setCell _ _ _ _ (fun e => hr (e ▸ hb))⟩
/-- the blocks of a set, and all that are made from now on -/
abbrev Plus (F : Nat → Prop) (n : Nat) : Nat → Prop := fun b => F b ∨ n ≤ b

/-- an entry as cells, as a value, as a row; a list of entries as cells -/
def entC (e : Ent) : List Value := [.int .i64 e.block, .int .i64 e.kind, .int .i64 e.version, .int .i64 e.move, .int .i64 e.zone, .int .i64 e.offset]
abbrev entV (e : Ent) : Value := .agg #[.int .i64 e.block, .int .i64 e.kind, .int .i64 e.version, .int .i64 e.move, .int .i64 e.zone, .int .i64 e.offset]
def ents (L : List Ent) : List Value := L.flatMap entC
theorem ents_nil : ents [] = [] := rfl
theorem ents_append (L M : List Ent) : ents (L ++ M) = ents L ++ ents M := by simp [ents]
theorem ents_cons (e : Ent) (L : List Ent) : ents (e :: L) = entC e ++ ents L := rfl
theorem ents_one (e : Ent) : ents [e] = entC e := by simp [ents]
theorem ents_length (L : List Ent) : (ents L).length = L.length * 6 := by
  induction L with
  | nil => rfl
  | cons e L ih => rw [ents_cons, List.length_append, ih, List.length_cons]; simp [entC]; omega
theorem ents_get {L : List Ent} {i : Nat} {e : Ent} (h : L[i]? = some e) (k : Nat) (hk : k < 6) : (ents L)[i * 6 + k]? = (entC e)[k]? := by
  induction L generalizing i with
  | nil => cases h
  | cons x L ih =>
    rw [ents_cons]
    cases i with
    | zero =>
      obtain rfl := Option.some.inj h
      rw [List.getElem?_append_left (by simp [entC]; omega)]
      congr 1
      omega
    | succ i =>
      rw [List.getElem?_append_right (by simp [entC]; omega)]
      have := ih (i := i) h
      rw [← this]
      congr 1
      simp [entC]
      omega
theorem ents_flat (L : List Ent) : ∀ u ∈ ents L, u.oneCell' = true := by
  intro u hu
  obtain ⟨e, _, he⟩ := List.mem_flatMap.1 hu
  simp only [entC, List.mem_cons, List.not_mem_nil, or_false] at he
  rcases he with rfl | rfl | rfl | rfl | rfl | rfl <;> rfl
theorem ents_take (L : List Ent) (k : Nat) : ents (L.take k) = (ents L).take (k * 6) := by
  induction L generalizing k with
  | nil => simp [ents]
  | cons e L ih =>
    cases k with
    | zero => simp [ents]
    | succ k =>
      have hl : (entC e).length = 6 := rfl
      rw [List.take_succ_cons, ents_cons, ents_cons, ih, List.take_append, List.take_of_length_le (l := entC e) (by omega), hl, show (k + 1) * 6 - 6 = k * 6 by omega]
theorem ents_drop (L : List Ent) (k : Nat) : ents (L.drop k) = (ents L).drop (k * 6) := by
  induction L generalizing k with
  | nil => simp [ents]
  | cons e L ih =>
    cases k with
    | zero => simp [ents]
    | succ k =>
      have hl : (entC e).length = 6 := rfl
      rw [List.drop_succ_cons, ents_cons, ih, List.drop_append, List.drop_of_length_le (l := entC e) (by omega), hl, List.nil_append, show (k + 1) * 6 - 6 = k * 6 by omega]
/-- an entry in memory: its cells as a walk spells them -/
abbrev EntAt (w : World) (x : Addr) (i : Nat) (e : Ent) : Prop :=
  w.cell? (x.add (i * 6)) = some (.int .i64 e.block) ∧ w.cell? ⟨(x.add (i * 6)).block, (x.add (i * 6)).off + 1, none⟩ = some (.int .i64 e.kind) ∧
  w.cell? ⟨(x.add (i * 6)).block, (x.add (i * 6)).off + 2, none⟩ = some (.int .i64 e.version) ∧ w.cell? ⟨(x.add (i * 6)).block, (x.add (i * 6)).off + 3, none⟩ = some (.int .i64 e.move) ∧
  w.cell? ⟨(x.add (i * 6)).block, (x.add (i * 6)).off + 4, none⟩ = some (.int .i64 e.zone) ∧ w.cell? ⟨(x.add (i * 6)).block, (x.add (i * 6)).off + 5, none⟩ = some (.int .i64 e.offset)
/-- a list of entries -/
def EList (w : World) (F : Nat → Prop) (a : Option Addr) (len cap : Nat) (L : List Ent) : Prop :=
  (True ∧ len = 0 ∧ cap = 0 ∧ L = []) ∨
  ∃ x, a = some x ∧ len ≤ cap ∧ cap ≤ maxLen ∧ L.length = len ∧ x.block < w.heap.size ∧ F x.block ∧ ∀ j u, (ents L)[j]? = some u → w.cell? (x.add j) = some u
theorem EList.nil (w : World) (F : Nat → Prop) : EList w F none 0 0 [] := .inl ⟨trivial, rfl, rfl, rfl⟩
theorem EList.length {w : World} {F : Nat → Prop} {a : Option Addr} {len cap : Nat} {L : List Ent} (h : EList w F a len cap L) : L.length = len := by
  rcases h with ⟨_, rfl, _, rfl⟩ | ⟨x, _, _, _, h4, _⟩
  · rfl
  · exact h4
theorem EList.cap {w : World} {F : Nat → Prop} {a : Option Addr} {len cap : Nat} {L : List Ent} (h : EList w F a len cap L) : len ≤ cap ∧ cap ≤ maxLen := by
  rcases h with ⟨_, rfl, rfl, rfl⟩ | ⟨x, _, h2, h3, _⟩
  · exact ⟨Nat.le_refl _, Nat.zero_le _⟩
  · exact ⟨h2, h3⟩
theorem EList.on {F : Nat → Prop} {w w' : World} {a : Option Addr} {len cap : Nat} {L : List Ent} (h : EList w F a len cap L) (hw : Same F w w') : EList w' F a len cap L := by
  rcases h with h | ⟨x, h1, h2, h3, h4, h5, h6, h7⟩
  · exact .inl h
  · exact .inr ⟨x, h1, h2, h3, h4, Nat.lt_of_lt_of_le h5 hw.1, h6, fun j u hu => hw.cell (by rw [ent_add_block]; exact h6) (h7 j u hu)⟩
theorem EList.mono {F G : Nat → Prop} {w : World} {a : Option Addr} {len cap : Nat} {L : List Ent} (h : EList w F a len cap L) (hFG : ∀ b, b < w.heap.size → F b → G b) : EList w G a len cap L := by
  rcases h with h | ⟨x, h1, h2, h3, h4, h5, h6, h7⟩
  · exact .inl h
  · exact .inr ⟨x, h1, h2, h3, h4, h5, hFG _ h5 h6, h7⟩
theorem EList.cut {F : Nat → Prop} {w : World} {a : Option Addr} {len cap : Nat} {L : List Ent} (h : EList w F a len cap L) : EList w (fun b => F b ∧ b < w.heap.size) a len cap L := h.mono fun _ hb hf => ⟨hf, hb⟩
theorem ent_at {w : World} {x : Addr} {L : List Ent} (h : ∀ j u, (ents L)[j]? = some u → w.cell? (x.add j) = some u) {i : Nat} {e : Ent} (hi : L[i]? = some e) : EntAt w x i e := by
  refine ⟨h (i * 6) _ ((ents_get hi 0 (by decide))), ?_, ?_, ?_, ?_, ?_⟩
  · rw [← ent_add_off x (i * 6) 0]; exact h _ _ (ents_get hi 1 (by decide))
  · rw [← ent_add_off x (i * 6) 1]; exact h _ _ (ents_get hi 2 (by decide))
  · rw [← ent_add_off x (i * 6) 2]; exact h _ _ (ents_get hi 3 (by decide))
  · rw [← ent_add_off x (i * 6) 3]; exact h _ _ (ents_get hi 4 (by decide))
  · rw [← ent_add_off x (i * 6) 4]; exact h _ _ (ents_get hi 5 (by decide))
theorem EList.ent {w : World} {F : Nat → Prop} {a : Option Addr} {len cap : Nat} {L : List Ent} (h : EList w F a len cap L) (i : Nat) (hi : i < len) : ∃ x e, a = some x ∧ L[i]? = some e ∧ EntAt w x i e := by
  have hl := h.length
  rcases h with ⟨_, rfl, _, _⟩ | ⟨x, h1, _, _, _, _, _, h7⟩
  · omega
  · have he : L[i]? = some (L[i]'(by omega)) := List.getElem?_eq_getElem _
    exact ⟨x, _, h1, he, ent_at h7 he⟩
theorem entry_row {w : World} {g : Nat} {a b c d e f : Value} {t : TypeId} {fr : Nat × Nat} (h : w.heap[g]? = some (.cells #[a, b, c, d, e, f] t fr)) :
    w.cell? ⟨g, 0, none⟩ = some a ∧ w.cell? ⟨g, 1, none⟩ = some b ∧ w.cell? ⟨g, 2, none⟩ = some c ∧ w.cell? ⟨g, 3, none⟩ = some d ∧ w.cell? ⟨g, 4, none⟩ = some e ∧ w.cell? ⟨g, 5, none⟩ = some f :=
  ⟨cell_of_row _ _ 0 _ _ _ h, cell_of_row _ _ 1 _ _ _ h, cell_of_row _ _ 2 _ _ _ h, cell_of_row _ _ 3 _ _ _ h, cell_of_row _ _ 4 _ _ _ h, cell_of_row _ _ 5 _ _ _ h⟩
theorem e_on {B g : Nat} {W w1 : World} {x : Option Obj} (hb : Below B W w1) (h : W.heap[g]? = x) (hg : g < B) : w1.heap[g]? = x := heap_old hb hg h
theorem e_al {g : Nat} {w : World} {o : Obj} (h : w.heap[g]? = some o) (o2 : Obj) : (w.alloc o2).heap[g]? = some o := (Below.heap_alloc _ _ _ (Array.getElem?_eq_some_iff.1 h).1).trans h
theorem e_lt {g : Nat} {w : World} {o : Obj} (h : w.heap[g]? = some o) : g < w.heap.size := (Array.getElem?_eq_some_iff.1 h).1
theorem e_b {a b : Bool} (h : a = b) : Ending.returned (.bool a) = .returned (.bool b) := by rw [h]
theorem e_v {x y : Value} (h : x = y) : Ending.returned x = .returned y := by rw [h]
end Go.Proofs.Ytkamadeekkccgaa.Ents

/- The walks of the document's entry, place and Valid. -/
namespace Go.Proofs.Ytkamadeekkccgaa.Ents
open Go.RowKit Plan EntMath
theorem ok_iff {e : Ent} : okE e = true ↔ (e.kind = 1 ∨ e.kind = 2) ∧ 1 ≤ e.version ∧ e.version ≤ 1099511627776 ∧ 0 ≤ e.move ∧ e.move ≤ 255 ∧ 0 ≤ e.block ∧ 0 ≤ e.zone ∧ 0 ≤ e.offset := by
  simp [okE, Bool.and_eq_true, and_assoc]
theorem ok_not {e : Ent} (h : ¬ ((e.kind = 1 ∨ e.kind = 2) ∧ 1 ≤ e.version ∧ e.version ≤ 1099511627776 ∧ 0 ≤ e.move ∧ e.move ≤ 255 ∧ 0 ≤ e.block ∧ 0 ≤ e.zone ∧ 0 ≤ e.offset)) : okE e = false := by
  cases hE : okE e
  · rfl
  · exact absurd (ok_iff.1 hE) h
theorem e_dec {E : Bool} {p : Prop} [Decidable p] (h1 : p → E = true) (h2 : ¬ p → E = false) : decide p = E := by
  by_cases h : p
  · rw [decide_eq_true h, h1 h]
  · rw [decide_eq_false h, h2 h]
end Go.Proofs.Ytkamadeekkccgaa.Ents

/- The walk of the document's Valid. -/
namespace Go.Proofs.Ytkamadeekkccgaa.Ents
open Go.RowKit Plan EntMath
theorem EntAt.kept {w w' : World} {x : Addr} {i : Nat} {e : Ent} (h : EntAt w x i e) (hb : Below w.heap.size w w') (hx : x.block < w.heap.size) : EntAt w' x i e := by
  have hc : ∀ y : Addr, y.block = x.block → w'.cell? y = w.cell? y := fun y hy => hb.cell (by rw [hy]; exact hx)
  obtain ⟨h0, h1, h2, h3, h4, h5⟩ := h
  have hB : (x.add (i * 6)).block = x.block := ent_add_block x _
  exact ⟨(hc _ hB).trans h0, (hc ⟨(x.add (i * 6)).block, (x.add (i * 6)).off + 1, none⟩ hB).trans h1, (hc ⟨(x.add (i * 6)).block, (x.add (i * 6)).off + 2, none⟩ hB).trans h2, (hc ⟨(x.add (i * 6)).block, (x.add (i * 6)).off + 3, none⟩ hB).trans h3, (hc ⟨(x.add (i * 6)).block, (x.add (i * 6)).off + 4, none⟩ hB).trans h4, (hc ⟨(x.add (i * 6)).block, (x.add (i * 6)).off + 5, none⟩ hB).trans h5⟩
theorem EntAt.lt {w : World} {x : Addr} {i : Nat} {e : Ent} (h : EntAt w x i e) : x.block < w.heap.size := by
  have := World.block_lt_of_cell? w _ h.1
  rwa [ent_add_block] at this
theorem valid_no {L : List Ent} {i : Nat} {e : Ent} (he : L[i]? = some e) (h : okAt L i = false) : validB L = false := by
  cases hv : validB L
  · rfl
  · rw [valid_at hv he] at h; cases h
theorem valid_all {L : List Ent} (h : ∀ i, i < L.length → okAt L i = true) : validB L = true := List.all_eq_true.2 fun i hi => h i (List.mem_range.1 hi)
end Go.Proofs.Ytkamadeekkccgaa.Ents
