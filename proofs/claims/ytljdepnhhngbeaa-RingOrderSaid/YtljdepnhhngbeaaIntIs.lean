
/- Lists of numbers that lie in memory, in the blocks of a set; lists of numbers that the call owns. -/
import Derived.Test.YtljdepnhhngbeaaEntIs
import Derived.Test.YtljdepnhhngbeaaEntReloc
import Derived.Laws.AppendOwn
import Derived.Deep.OwnRows
namespace Go.Proofs.Ytljdepnhhngbeaa.Ents
open Go.RowKit Plan EntMath
def IList (w : World) (F : Nat → Prop) (a : Option Addr) (len cap : Nat) (Z : List Int) : Prop :=
  (True ∧ len = 0 ∧ cap = 0 ∧ Z = []) ∨
  ∃ x, a = some x ∧ len ≤ cap ∧ cap ≤ maxLen ∧ Z.length = len ∧ x.block < w.heap.size ∧ F x.block ∧ ∀ (j : Nat) z, Z[j]? = some z → w.cell? (x.add j) = some (.int .i64 z)
theorem IList.nil (w : World) (F : Nat → Prop) : IList w F none 0 0 [] := .inl ⟨trivial, rfl, rfl, rfl⟩
theorem IList.length {w : World} {F : Nat → Prop} {a : Option Addr} {n c : Nat} {Z : List Int} (h : IList w F a n c Z) : Z.length = n := by
  rcases h with ⟨_, rfl, _, rfl⟩ | ⟨x, _, _, _, h4, _⟩
  · rfl
  · exact h4
theorem IList.cap {w : World} {F : Nat → Prop} {a : Option Addr} {n c : Nat} {Z : List Int} (h : IList w F a n c Z) : n ≤ c ∧ c ≤ maxLen := by
  rcases h with ⟨_, rfl, rfl, rfl⟩ | ⟨x, _, h2, h3, _⟩
  · exact ⟨Nat.le_refl _, Nat.zero_le _⟩
  · exact ⟨h2, h3⟩
theorem IList.on {F : Nat → Prop} {w w' : World} {a : Option Addr} {n c : Nat} {Z : List Int} (h : IList w F a n c Z) (hw : Same F w w') : IList w' F a n c Z := by
  rcases h with h | ⟨x, h1, h2, h3, h4, h5, h6, h7⟩
  · exact .inl h
  · exact .inr ⟨x, h1, h2, h3, h4, Nat.lt_of_lt_of_le h5 hw.1, h6, fun j z hz => hw.cell (by rw [ent_add_block]; exact h6) (h7 j z hz)⟩
theorem IList.mono {F G : Nat → Prop} {w : World} {a : Option Addr} {n c : Nat} {Z : List Int} (h : IList w F a n c Z) (hFG : ∀ b, b < w.heap.size → F b → G b) : IList w G a n c Z := by
  rcases h with h | ⟨x, h1, h2, h3, h4, h5, h6, h7⟩
  · exact .inl h
  · exact .inr ⟨x, h1, h2, h3, h4, h5, hFG _ h5 h6, h7⟩
theorem IList.cut {F : Nat → Prop} {w : World} {a : Option Addr} {n c : Nat} {Z : List Int} (h : IList w F a n c Z) : IList w (fun b => F b ∧ b < w.heap.size) a n c Z := h.mono fun _ hb hf => ⟨hf, hb⟩
theorem IList.low {F : Nat → Prop} {w : World} {a : Option Addr} {n c : Nat} {Z : List Int} (h : IList w F a n c Z) : IList w (fun b => b < w.heap.size) a n c Z := h.mono fun _ hb _ => hb
theorem IList.same {F : Nat → Prop} {w w' : World} {a : Option Addr} {n c : Nat} {Z : List Int} (h : IList w F a n c Z) (hb : Below w.heap.size w w') : IList w' (fun b => b < w.heap.size) a n c Z := h.low.on (Same.low hb)
theorem IList.at' {F : Nat → Prop} {w : World} {a : Option Addr} {n c : Nat} {Z : List Int} (h : IList w F a n c Z) (i : Nat) (hi : i < n) : ∃ x z, a = some x ∧ Z[i]? = some z ∧ w.cell? (x.add i) = some (.int .i64 z) := by
  have hl := h.length
  rcases h with ⟨_, rfl, _, _⟩ | ⟨x, h1, _, _, _, _, _, h7⟩
  · omega
  · have he : Z[i]? = some (Z[i]'(by omega)) := List.getElem?_eq_getElem _
    exact ⟨x, _, h1, he, h7 i _ he⟩
theorem IList.some' {F : Nat → Prop} {w : World} {a : Option Addr} {n c : Nat} {Z : List Int} (h : IList w F a n c Z) (hn : 0 < n) : ∃ x, a = some x ∧ x.block < w.heap.size ∧ ∀ (j : Nat) z, Z[j]? = some z → w.cell? (x.add j) = some (.int .i64 z) := by
  rcases h with ⟨_, rfl, _, _⟩ | ⟨x, h1, _, _, _, h5, _, h7⟩
  · omega
  · exact ⟨x, h1, h5, h7⟩
/-- a list of numbers as cells -/
def intC (Z : List Int) : List Value := Z.map fun z => .int .i64 z
theorem intC_len (Z : List Int) : (intC Z).length = Z.length := by simp [intC]
theorem intC_at {Z : List Int} {j : Nat} {z : Int} (h : Z[j]? = some z) : (intC Z)[j]? = some (.int .i64 z) := by simp [intC, h]
theorem intC_flat (Z : List Int) : ∀ u ∈ intC Z, u.oneCell' = true := by
  intro u hu
  obtain ⟨z, _, rfl⟩ := List.mem_map.1 hu
  rfl
theorem intC_set (Z : List Int) (i : Nat) (z : Int) : (intC Z).set i (.int .i64 z) = intC (Z.set i z) := by simp [intC, List.map_set]
theorem intC_cell {Z : List Int} {w : World} {x : Addr} (h : ∀ (j : Nat) z, Z[j]? = some z → w.cell? (x.add j) = some (.int .i64 z)) : ∀ j u, (intC Z)[j]? = some u → w.cell? (x.add j) = some u := by
  intro j u hu
  unfold intC at hu
  rw [List.getElem?_map] at hu
  cases hz : Z[j]? with
  | none => rw [hz] at hu; cases hu
  | some z =>
    rw [hz] at hu
    obtain rfl := Option.some.inj hu
    exact h j z hz
theorem own_ilist {w : World} {B : Nat} {v : Value} {n : Nat} {Z : List Int} {F : Nat → Prop} (h : w.ownsRow B 3 1 v n (intC Z)) (hF : ∀ b, v.ownBlock = some b → F b) : ∃ a c, v = .slice a n c ∧ IList w F a n c Z := by
  have hn : Z.length = n := by have := h.1; rw [intC_len] at this; omega
  rcases h.2 with ⟨rfl, rfl⟩ | ⟨g, cap, cur, rfl, _, hg, h1, h2, _⟩
  · exact ⟨none, 0, rfl, .inl ⟨trivial, rfl, rfl, List.length_eq_zero_iff.1 hn⟩⟩
  · exact ⟨_, _, rfl, .inr ⟨_, rfl, h1, h2, hn, (Array.getElem?_eq_some_iff.1 hg).1, hF g rfl, fun j z hz => h.cells (g := g) rfl j _ (intC_at hz)⟩⟩
theorem int_info : (Try.prog.info? 3).map (fun i => (i.zero, i.size, i.bytes)) = some (some (.int .i64 0), 1, 8) := by kernel_rfl
theorem ints_empty (w : World) {H : Nat} (hH : w.heap.size = H) : (w.alloc (.cells #[] 3)).ownsRow H 3 1 (.slice (some ⟨H, 0, none⟩) 0 0) 0 [] := by
  subst hH
  exact World.ownsRow_made (base := w.heap.size) (e := 3) (size := 1) w #[] 0 (Nat.le_refl _) (by unfold maxLen; decide) rfl
theorem int_own_cell {w : World} {B g n cap : Nat} {Z : List Int} {j : Nat} {z : Int} (h : w.ownsRow B 3 1 (.slice (some ⟨g, 0, none⟩) n cap) n (intC Z)) (hj : Z[j]? = some z) : w.cell? ⟨g, j, none⟩ = some (.int .i64 z) ∧ w.frozen? ⟨g, j, none⟩ = false := by
  constructor
  · have := h.cells (g := g) rfl j _ (intC_at hj)
    rw [Addr.add_lit, Nat.zero_add] at this
    exact this
  · rcases h.2 with ⟨h, _⟩ | ⟨g', cap', cur, hv, hb, hg, _⟩
    · cases h
    · cases hv
      simp [World.frozen?, hg]
theorem i_b {a b : Bool} (h : a = b) : Ending.returned (.bool a) = .returned (.bool b) := by rw [h]
end Go.Proofs.Ytljdepnhhngbeaa.Ents
