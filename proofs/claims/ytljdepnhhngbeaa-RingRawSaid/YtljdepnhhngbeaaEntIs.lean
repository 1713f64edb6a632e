
/- Lists of entries that lie in memory, in the blocks of a set; lists that the call owns. -/
import Derived.Test.YtljdepnhhngbeaaEntMath
import Derived.Test.YtljdepnhhngbeaaBaseMod
import Derived.Test.YtljdepnhhngbeaaBasePlan
import Derived.Deep.AppendLies
import Derived.OwnWalk
import Derived.WalkKit
import Derived.WalkMore
import Derived.Lib.Hide
namespace Go.Proofs.Ytljdepnhhngbeaa.Ents
open Go.RowKit Plan EntMath

theorem ent_add_off (x : Addr) (m n : Nat) : x.add (m + (n + 1)) = ⟨(x.add m).block, (x.add m).off + (n + 1), none⟩ := by rw [← Addr.add_add, Addr.add_succ']
theorem ent_add_block (x : Addr) (i : Nat) : (x.add i).block = x.block := by unfold Addr.add; split <;> rfl
/-- two worlds that agree on the blocks of a set -/
def Same (F : Nat → Prop) (w w' : World) : Prop := w.heap.size ≤ w'.heap.size ∧ ∀ b, F b → b < w.heap.size → w'.heap[b]? = w.heap[b]?
theorem Same.cell {F : Nat → Prop} {w w' : World} (h : Same F w w') {x : Addr} {v : Value} (hx : F x.block) (hc : w.cell? x = some v) : w'.cell? x = some v := by
  rw [World.cell?_of_block (h.2 x.block hx (World.block_lt_of_cell? w _ hc)), hc]
theorem Same.refl (F : Nat → Prop) (w : World) : Same F w w := ⟨Nat.le_refl _, fun _ _ _ => rfl⟩
theorem Same.trans {F : Nat → Prop} {a b c : World} (h : Same F a b) (k : Same F b c) : Same F a c := ⟨Nat.le_trans h.1 k.1, fun x hx hl => (k.2 x hx (Nat.lt_of_lt_of_le hl h.1)).trans (h.2 x hx hl)⟩
theorem Same.below {F : Nat → Prop} {w w' : World} (hb : Below w.heap.size w w') : Same F w w' := ⟨hb.size, fun b _ hlt => hb.block b hlt⟩
theorem Same.low {B : Nat} {w w' : World} (hb : Below B w w') : Same (fun b => b < B) w w' := ⟨hb.size, fun b h _ => hb.block b h⟩
theorem Same.alloc {F : Nat → Prop} (w : World) (o : Obj) : Same F w (w.alloc o) := Same.below ((Below.refl _ _).alloc (Nat.le_refl _) o)
theorem Same.row {F : Nat → Prop} {w : World} {r : Nat} (hr : ¬ F r) (cs : Array Value) : Same F w (w.setRow r cs) :=
  ⟨Nat.le_of_eq (by simp [World.setRow]), fun b hb _ => setRow_other _ _ _ _ (fun e => hr (e ▸ hb))⟩
theorem Same.setCell {F : Nat → Prop} {w : World} {p : Addr} (hr : ¬ F p.block) (u : Value) : Same F w (w.setCell p u) :=
  ⟨Nat.le_of_eq (by simp [World.setCell]), fun b hb _ => Below.heap_setCell _ _ _ _ (fun e => hr (e ▸ hb))⟩
/-- the blocks of a set, and all that are made from now on -/
abbrev Plus (F : Nat → Prop) (n : Nat) : Nat → Prop := fun b => F b ∨ n ≤ b

/-- an entry as cells, as a value, as a row; a list of entries as cells -/
def entC (e : Ent) : List Value := [.int .i64 e.block, .int .i64 e.kind, .int .i64 e.version, .int .i64 e.move, .int .i64 e.zone, .int .i64 e.offset]
abbrev entV (e : Ent) : Value := .agg #[.int .i64 e.block, .int .i64 e.kind, .int .i64 e.version, .int .i64 e.move, .int .i64 e.zone, .int .i64 e.offset]
def ents (L : List Ent) : List Value := L.flatMap entC
theorem ents_nil : ents [] = [] := rfl
theorem ents_append (L M : List Ent) : ents (L ++ M) = ents L ++ ents M := by simp [ents]
theorem ents_cons (e : Ent) (L : List Ent) : ents (e :: L) = entC e ++ ents L := rfl
theorem ents_one (e : Ent) : ents [e] = entC e := by simp [ents]
theorem ents_length (L : List Ent) : (ents L).length = L.length * 6 := by
  induction L with
  | nil => rfl
  | cons e L ih => rw [ents_cons, List.length_append, ih, List.length_cons]; simp [entC]; omega
theorem ents_get {L : List Ent} {i : Nat} {e : Ent} (h : L[i]? = some e) (k : Nat) (hk : k < 6) : (ents L)[i * 6 + k]? = (entC e)[k]? := by
  induction L generalizing i with
  | nil => cases h
  | cons x L ih =>
    rw [ents_cons]
    cases i with
    | zero =>
      obtain rfl := Option.some.inj h
      rw [List.getElem?_append_left (by simp [entC]; omega)]
      congr 1
      omega
    | succ i =>
      rw [List.getElem?_append_right (by simp [entC]; omega)]
      have := ih (i := i) h
      rw [← this]
      congr 1
      simp [entC]
      omega
theorem ents_flat (L : List Ent) : ∀ u ∈ ents L, u.oneCell' = true := by
  intro u hu
  obtain ⟨e, _, he⟩ := List.mem_flatMap.1 hu
  simp only [entC, List.mem_cons, List.not_mem_nil, or_false] at he
  rcases he with rfl | rfl | rfl | rfl | rfl | rfl <;> rfl
theorem ents_take (L : List Ent) (k : Nat) : ents (L.take k) = (ents L).take (k * 6) := by
  induction L generalizing k with
  | nil => simp [ents]
  | cons e L ih =>
    cases k with
    | zero => simp [ents]
    | succ k =>
      have hl : (entC e).length = 6 := rfl
      rw [List.take_succ_cons, ents_cons, ents_cons, ih, List.take_append, List.take_of_length_le (l := entC e) (by omega), hl, show (k + 1) * 6 - 6 = k * 6 by omega]
theorem ents_drop (L : List Ent) (k : Nat) : ents (L.drop k) = (ents L).drop (k * 6) := by
  induction L generalizing k with
  | nil => simp [ents]
  | cons e L ih =>
    cases k with
    | zero => simp [ents]
    | succ k =>
      have hl : (entC e).length = 6 := rfl
      rw [List.drop_succ_cons, ents_cons, ih, List.drop_append, List.drop_of_length_le (l := entC e) (by omega), hl, List.nil_append, show (k + 1) * 6 - 6 = k * 6 by omega]
/-- an entry in memory: its cells as a walk spells them -/
abbrev EntAt (w : World) (x : Addr) (i : Nat) (e : Ent) : Prop :=
  w.cell? (x.add (i * 6)) = some (.int .i64 e.block) ∧ w.cell? ⟨(x.add (i * 6)).block, (x.add (i * 6)).off + 1, none⟩ = some (.int .i64 e.kind) ∧
  w.cell? ⟨(x.add (i * 6)).block, (x.add (i * 6)).off + 2, none⟩ = some (.int .i64 e.version) ∧ w.cell? ⟨(x.add (i * 6)).block, (x.add (i * 6)).off + 3, none⟩ = some (.int .i64 e.move) ∧
  w.cell? ⟨(x.add (i * 6)).block, (x.add (i * 6)).off + 4, none⟩ = some (.int .i64 e.zone) ∧ w.cell? ⟨(x.add (i * 6)).block, (x.add (i * 6)).off + 5, none⟩ = some (.int .i64 e.offset)
/-- a list of entries -/
def EList (w : World) (F : Nat → Prop) (a : Option Addr) (len cap : Nat) (L : List Ent) : Prop :=
  (True ∧ len = 0 ∧ cap = 0 ∧ L = []) ∨
  ∃ x, a = some x ∧ len ≤ cap ∧ cap ≤ maxLen ∧ L.length = len ∧ x.block < w.heap.size ∧ F x.block ∧ ∀ j u, (ents L)[j]? = some u → w.cell? (x.add j) = some u
theorem EList.nil (w : World) (F : Nat → Prop) : EList w F none 0 0 [] := .inl ⟨trivial, rfl, rfl, rfl⟩
theorem EList.length {w : World} {F : Nat → Prop} {a : Option Addr} {len cap : Nat} {L : List Ent} (h : EList w F a len cap L) : L.length = len := by
  rcases h with ⟨_, rfl, _, rfl⟩ | ⟨x, _, _, _, h4, _⟩
  · rfl
  · exact h4
theorem EList.cap {w : World} {F : Nat → Prop} {a : Option Addr} {len cap : Nat} {L : List Ent} (h : EList w F a len cap L) : len ≤ cap ∧ cap ≤ maxLen := by
  rcases h with ⟨_, rfl, rfl, rfl⟩ | ⟨x, _, h2, h3, _⟩
  · exact ⟨Nat.le_refl _, Nat.zero_le _⟩
  · exact ⟨h2, h3⟩
theorem EList.on {F : Nat → Prop} {w w' : World} {a : Option Addr} {len cap : Nat} {L : List Ent} (h : EList w F a len cap L) (hw : Same F w w') : EList w' F a len cap L := by
  rcases h with h | ⟨x, h1, h2, h3, h4, h5, h6, h7⟩
  · exact .inl h
  · exact .inr ⟨x, h1, h2, h3, h4, Nat.lt_of_lt_of_le h5 hw.1, h6, fun j u hu => hw.cell (by rw [ent_add_block]; exact h6) (h7 j u hu)⟩
theorem EList.mono {F G : Nat → Prop} {w : World} {a : Option Addr} {len cap : Nat} {L : List Ent} (h : EList w F a len cap L) (hFG : ∀ b, b < w.heap.size → F b → G b) : EList w G a len cap L := by
  rcases h with h | ⟨x, h1, h2, h3, h4, h5, h6, h7⟩
  · exact .inl h
  · exact .inr ⟨x, h1, h2, h3, h4, h5, hFG _ h5 h6, h7⟩
theorem EList.cut {F : Nat → Prop} {w : World} {a : Option Addr} {len cap : Nat} {L : List Ent} (h : EList w F a len cap L) : EList w (fun b => F b ∧ b < w.heap.size) a len cap L := h.mono fun _ hb hf => ⟨hf, hb⟩
theorem ent_at {w : World} {x : Addr} {L : List Ent} (h : ∀ j u, (ents L)[j]? = some u → w.cell? (x.add j) = some u) {i : Nat} {e : Ent} (hi : L[i]? = some e) : EntAt w x i e := by
  refine ⟨h (i * 6) _ ((ents_get hi 0 (by decide))), ?_, ?_, ?_, ?_, ?_⟩
  · rw [← ent_add_off x (i * 6) 0]; exact h _ _ (ents_get hi 1 (by decide))
  · rw [← ent_add_off x (i * 6) 1]; exact h _ _ (ents_get hi 2 (by decide))
  · rw [← ent_add_off x (i * 6) 2]; exact h _ _ (ents_get hi 3 (by decide))
  · rw [← ent_add_off x (i * 6) 3]; exact h _ _ (ents_get hi 4 (by decide))
  · rw [← ent_add_off x (i * 6) 4]; exact h _ _ (ents_get hi 5 (by decide))
theorem EList.ent {w : World} {F : Nat → Prop} {a : Option Addr} {len cap : Nat} {L : List Ent} (h : EList w F a len cap L) (i : Nat) (hi : i < len) : ∃ x e, a = some x ∧ L[i]? = some e ∧ EntAt w x i e := by
  have hl := h.length
  rcases h with ⟨_, rfl, _, _⟩ | ⟨x, h1, _, _, _, _, _, h7⟩
  · omega
  · have he : L[i]? = some (L[i]'(by omega)) := List.getElem?_eq_getElem _
    exact ⟨x, _, h1, he, ent_at h7 he⟩
theorem entry_row {w : World} {g : Nat} {a b c d e f : Value} {t : TypeId} {fr : Nat × Nat} (h : w.heap[g]? = some (.cells #[a, b, c, d, e, f] t fr)) :
    w.cell? ⟨g, 0, none⟩ = some a ∧ w.cell? ⟨g, 1, none⟩ = some b ∧ w.cell? ⟨g, 2, none⟩ = some c ∧ w.cell? ⟨g, 3, none⟩ = some d ∧ w.cell? ⟨g, 4, none⟩ = some e ∧ w.cell? ⟨g, 5, none⟩ = some f :=
  ⟨cell_of_row _ _ 0 _ _ _ h, cell_of_row _ _ 1 _ _ _ h, cell_of_row _ _ 2 _ _ _ h, cell_of_row _ _ 3 _ _ _ h, cell_of_row _ _ 4 _ _ _ h, cell_of_row _ _ 5 _ _ _ h⟩
theorem e_on {B g : Nat} {W w1 : World} {x : Option Obj} (hb : Below B W w1) (h : W.heap[g]? = x) (hg : g < B) : w1.heap[g]? = x := heap_old hb hg h
theorem e_al {g : Nat} {w : World} {o : Obj} (h : w.heap[g]? = some o) (o2 : Obj) : (w.alloc o2).heap[g]? = some o := (Below.heap_alloc _ _ _ (Array.getElem?_eq_some_iff.1 h).1).trans h
theorem e_lt {g : Nat} {w : World} {o : Obj} (h : w.heap[g]? = some o) : g < w.heap.size := (Array.getElem?_eq_some_iff.1 h).1
theorem e_b {a b : Bool} (h : a = b) : Ending.returned (.bool a) = .returned (.bool b) := by rw [h]
theorem e_v {x y : Value} (h : x = y) : Ending.returned x = .returned y := by rw [h]
end Go.Proofs.Ytljdepnhhngbeaa.Ents
