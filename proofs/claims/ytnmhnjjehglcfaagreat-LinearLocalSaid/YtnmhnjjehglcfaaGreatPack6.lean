/- Texts that belong together, part 6. -/
import Derived.Test.YtnmhnjjehglcfaaGreatPack3
import Derived.Test.YtnmhnjjehglcfaaGreatProg
import Derived.Deep.MidRow
import Derived.Laws.Tables
import Derived.Deep.AppendLies
import Derived.OwnWalk
import Derived.WalkKit
import Derived.WalkMore
import Derived.Lib.Hide

/- A struct by value out of, and into, the middle of a box's row. -/
namespace Go.Proofs.YtnmhnjjehglcfaaGreat
open Go.RowKit
theorem setRow_self (w : World) (g : Nat) {cs : Array Value} {t : TypeId} (h : w.heap[g]? = some (.cells cs t (0, 0))) : w.setRow g cs = w := by
  have hh : (w.setRow g cs).heap = w.heap := by
    apply Array.ext_getElem?
    intro i
    by_cases hi : i = g
    · subst hi
      rw [setRow_heap _ _ _ _ _ _ h, h]
    · exact setRow_other _ _ _ _ hi
  rw [show w.setRow g cs = { w with heap := (w.setRow g cs).heap } from rfl, hh]
section
variable {P : Program} {ops : Array Oper} {rest : List Oper} {a : Act} {w : World} {Q : Exit → Act → World → Prop}
end
/-- a row into which some cells were put -/
def spl (cs : Array Value) : Nat → List Value → Array Value
  | _, [] => cs
  | o, v :: r => spl (cs.setIfInBounds o v) (o + 1) r
theorem mid_cells {g : Nat} {t : TypeId} : ∀ (vs : List Value) (o : Nat) (cs : Array Value) (w : World), w.heap[g]? = some (.cells cs t (0, 0)) → w.setCells g o vs = w.setRow g (spl cs o vs)
  | [], o, cs, w, h => by
    rw [World.setCells, spl]
    exact (setRow_self w g h).symm
  | v :: r, o, cs, w, h => by
    rw [World.setCells, spl, setCell_eq_setRow _ _ _ _ _ _ _ h, mid_cells r (o + 1) (cs.setIfInBounds o v) _ (setRow_heap _ _ _ _ _ _ h), setRow_setRow]
theorem mid_there {w : World} {g o n : Nat} {cs : Array Value} {t : TypeId} (h : w.heap[g]? = some (.cells cs t (0, 0))) (hn : o + n ≤ cs.size) : w.there g o n := fun j hj => by
  constructor
  · rw [cell_of_row w g (o + j) _ _ _ h, Array.getElem?_eq_getElem (by omega)]
    rfl
  · simp [World.frozen?, h]
theorem store_mid {P : Program} {ops : Array Oper} {rest : List Oper} {a : Act} {w : World} {Q : Exit → Act → World → Prop} (ty : TypeId) (x y : Operand) {t' : TypeId} {pos : String} {after : Array Edge} (g o : Nat) {t : TypeId} {cs : Array Value} (cells cs' : Array Value)
    (hx : a.eval x = .pointer (some ⟨g, o, none⟩)) (hy : a.eval y = .agg cells) (hg : w.heap[g]? = some (.cells cs t (0, 0))) (hn : o + cells.size ≤ cs.size) (hi : (P.info? ty).map (·.size) = some cells.size) (h1 : cells.all (·.oneCell') = true) (hcs : spl cs o cells.toList = cs')
    (h : wpList P ops Q rest (a.put none undef) (w.setRow g cs')) : wpList P ops Q (⟨none, .store ty x y, t', pos, after, none⟩ :: rest) a w :=
  wpList_store_mid rfl ty x y rfl g o cells hx hy (mid_there hg hn) hi h1 (by rw [mid_cells _ _ _ _ hg, hcs]; exact h)
namespace Plan
variable {P : Program} {ops : Array Oper} {Q : Exit → Act → World → Prop} {S : World → Prop}
end Plan
end Go.Proofs.YtnmhnjjehglcfaaGreat

/- The store of one number into a cell, as an operation: in a walk and in a plan (Plan.carry). -/
namespace Go.Proofs.YtnmhnjjehglcfaaGreat.Put
open Go.RowKit
theorem int_info1 : (Tryz.prog.info? 3).map (·.size) = some 1 := by kernel_rfl
end Go.Proofs.YtnmhnjjehglcfaaGreat.Put

/- Results: two rows and a number; a row, a row and an error and the like. -/
namespace Go.Proofs.YtnmhnjjehglcfaaGreat.Plan
open Go.RowKit
theorem results_tmp_cell {P : Program} {fn : Func} {p q : Tmp} {ty : TypeId} (h : fn.results = #[.tmp q, .cell p ty]) (tmps : Array Value) (w : World) (g : Nat) (t : TypeId) (cs : Array Value) (fr : Nat × Nat) (d : TypeDesc)
    (hp : tmps.getD p undef = .pointer (some ⟨g, 0, none⟩)) (hg : w.heap[g]? = some (.cells cs t fr))
    (hu : P.underlying ty = some d) (hd : (match d with | .struct _ | .array _ _ => true | _ => false) = true) (hi : (P.info? ty).map (·.size) = some cs.size) :
    (results fn tmps).run P w = .ok (.tuple #[tmps.getD q undef, .agg cs]) w := by
  have hp' : tmps[p]?.getD undef = .pointer (some ⟨g, 0, none⟩) := by simpa using hp
  simp [results, h, hp', asAddr, run_loadVar_row w g t ty cs fr d hg hu hd hi]
end Go.Proofs.YtnmhnjjehglcfaaGreat.Plan

/- Lists of entries that lie in memory, in the blocks of a set; lists that the call owns. -/
namespace Go.Proofs.YtnmhnjjehglcfaaGreat.Ents
open Go.RowKit Plan EntMath

theorem ent_add_off (x : Addr) (m n : Nat) : x.add (m + (n + 1)) = ⟨(x.add m).block, (x.add m).off + (n + 1), none⟩ := by rw [← Addr.add_add, Addr.add_succ']
theorem ent_add_block (x : Addr) (i : Nat) : (x.add i).block = x.block := by unfold Addr.add; split <;> rfl
/-- two worlds that agree on the blocks of a set -/
def Same (F : Nat → Prop) (w w' : World) : Prop := w.heap.size ≤ w'.heap.size ∧ ∀ b, F b → b < w.heap.size → w'.heap[b]? = w.heap[b]?
theorem Same.cell {F : Nat → Prop} {w w' : World} (h : Same F w w') {x : Addr} {v : Value} (hx : F x.block) (hc : w.cell? x = some v) : w'.cell? x = some v := by
  rw [World.cell?_of_block (h.2 x.block hx (World.block_lt_of_cell? w _ hc)), hc]
theorem Same.refl (F : Nat → Prop) (w : World) : Same F w w := ⟨Nat.le_refl _, fun _ _ _ => rfl⟩
theorem Same.trans {F : Nat → Prop} {a b c : World} (h : Same F a b) (k : Same F b c) : Same F a c := ⟨Nat.le_trans h.1 k.1, fun x hx hl => (k.2 x hx (Nat.lt_of_lt_of_le hl h.1)).trans (h.2 x hx hl)⟩
theorem Same.below {F : Nat → Prop} {w w' : World} (hb : Below w.heap.size w w') : Same F w w' := ⟨hb.size, fun b _ hlt => hb.block b hlt⟩
theorem Same.low {B : Nat} {w w' : World} (hb : Below B w w') : Same (fun b => b < B) w w' := ⟨hb.size, fun b h _ => hb.block b h⟩
theorem Same.alloc {F : Nat → Prop} (w : World) (o : Obj) : Same F w (w.alloc o) := Same.below ((Below.refl _ _).alloc (Nat.le_refl _) o)
theorem Same.row {F : Nat → Prop} {w : World} {r : Nat} (hr : ¬ F r) (cs : Array Value) : Same F w (w.setRow r cs) :=
  ⟨Nat.le_of_eq (by simp [World.setRow]), fun b hb _ => setRow_other _ _ _ _ (fun e => hr (e ▸ hb))⟩
theorem Same.setCell {F : Nat → Prop} {w : World} {p : Addr} (hr : ¬ F p.block) (u : Value) : Same F w (w.setCell p u) :=
  ⟨Nat.le_of_eq (by simp [World.setCell]), fun b hb _ => Below.heap_setCell _ _ _ _ (fun e => hr (e ▸ hb))⟩
/-- an entry as cells, as a value, as a row; a list of entries as cells -/
def entC (e : Ent) : List Value := [.int .i64 e.block, .int .i64 e.kind, .int .i64 e.version, .int .i64 e.move, .int .i64 e.zone, .int .i64 e.offset]
def ents (L : List Ent) : List Value := L.flatMap entC
theorem ents_cons (e : Ent) (L : List Ent) : ents (e :: L) = entC e ++ ents L := rfl
theorem ents_take (L : List Ent) (k : Nat) : ents (L.take k) = (ents L).take (k * 6) := by
  induction L generalizing k with
  | nil => simp [ents]
  | cons e L ih =>
    cases k with
    | zero => simp [ents]
    | succ k =>
      have hl : (entC e).length = 6 := rfl
      rw [List.take_succ_cons, ents_cons, ents_cons, ih, List.take_append, List.take_of_length_le (l := entC e) (by omega), hl, show (k + 1) * 6 - 6 = k * 6 by omega]
/-- an entry in memory: its cells as a walk spells them -/
abbrev EntAt (w : World) (x : Addr) (i : Nat) (e : Ent) : Prop :=
  w.cell? (x.add (i * 6)) = some (.int .i64 e.block) ∧ w.cell? ⟨(x.add (i * 6)).block, (x.add (i * 6)).off + 1, none⟩ = some (.int .i64 e.kind) ∧
  w.cell? ⟨(x.add (i * 6)).block, (x.add (i * 6)).off + 2, none⟩ = some (.int .i64 e.version) ∧ w.cell? ⟨(x.add (i * 6)).block, (x.add (i * 6)).off + 3, none⟩ = some (.int .i64 e.move) ∧
  w.cell? ⟨(x.add (i * 6)).block, (x.add (i * 6)).off + 4, none⟩ = some (.int .i64 e.zone) ∧ w.cell? ⟨(x.add (i * 6)).block, (x.add (i * 6)).off + 5, none⟩ = some (.int .i64 e.offset)
/-- a list of entries -/
def EList (w : World) (F : Nat → Prop) (a : Option Addr) (len cap : Nat) (L : List Ent) : Prop :=
  (True ∧ len = 0 ∧ cap = 0 ∧ L = []) ∨
  ∃ x, a = some x ∧ len ≤ cap ∧ cap ≤ maxLen ∧ L.length = len ∧ x.block < w.heap.size ∧ F x.block ∧ ∀ j u, (ents L)[j]? = some u → w.cell? (x.add j) = some u
theorem EList.nil (w : World) (F : Nat → Prop) : EList w F none 0 0 [] := .inl ⟨trivial, rfl, rfl, rfl⟩
theorem EList.length {w : World} {F : Nat → Prop} {a : Option Addr} {len cap : Nat} {L : List Ent} (h : EList w F a len cap L) : L.length = len := by
  rcases h with ⟨_, rfl, _, rfl⟩ | ⟨x, _, _, _, h4, _⟩
  · rfl
  · exact h4
theorem EList.cap {w : World} {F : Nat → Prop} {a : Option Addr} {len cap : Nat} {L : List Ent} (h : EList w F a len cap L) : len ≤ cap ∧ cap ≤ maxLen := by
  rcases h with ⟨_, rfl, rfl, rfl⟩ | ⟨x, _, h2, h3, _⟩
  · exact ⟨Nat.le_refl _, Nat.zero_le _⟩
  · exact ⟨h2, h3⟩
theorem EList.on {F : Nat → Prop} {w w' : World} {a : Option Addr} {len cap : Nat} {L : List Ent} (h : EList w F a len cap L) (hw : Same F w w') : EList w' F a len cap L := by
  rcases h with h | ⟨x, h1, h2, h3, h4, h5, h6, h7⟩
  · exact .inl h
  · exact .inr ⟨x, h1, h2, h3, h4, Nat.lt_of_lt_of_le h5 hw.1, h6, fun j u hu => hw.cell (by rw [ent_add_block]; exact h6) (h7 j u hu)⟩
theorem EList.mono {F G : Nat → Prop} {w : World} {a : Option Addr} {len cap : Nat} {L : List Ent} (h : EList w F a len cap L) (hFG : ∀ b, b < w.heap.size → F b → G b) : EList w G a len cap L := by
  rcases h with h | ⟨x, h1, h2, h3, h4, h5, h6, h7⟩
  · exact .inl h
  · exact .inr ⟨x, h1, h2, h3, h4, h5, hFG _ h5 h6, h7⟩
theorem EList.cut {F : Nat → Prop} {w : World} {a : Option Addr} {len cap : Nat} {L : List Ent} (h : EList w F a len cap L) : EList w (fun b => F b ∧ b < w.heap.size) a len cap L := h.mono fun _ hb hf => ⟨hf, hb⟩
theorem e_on {B g : Nat} {W w1 : World} {x : Option Obj} (hb : Below B W w1) (h : W.heap[g]? = x) (hg : g < B) : w1.heap[g]? = x := heap_old hb hg h
theorem e_al {g : Nat} {w : World} {o : Obj} (h : w.heap[g]? = some o) (o2 : Obj) : (w.alloc o2).heap[g]? = some o := (Below.heap_alloc _ _ _ (Array.getElem?_eq_some_iff.1 h).1).trans h
theorem e_lt {g : Nat} {w : World} {o : Obj} (h : w.heap[g]? = some o) : g < w.heap.size := (Array.getElem?_eq_some_iff.1 h).1
end Go.Proofs.YtnmhnjjehglcfaaGreat.Ents
