
/- Entries, places and lists of entries that come in. -/
import Derived.Test.YtigmjpkhpoolkaaEntIs
import Derived.OpenShut
import Derived.ShutString
import Derived.ChangeArms
import Derived.ProofKit
namespace Go.Proofs.Ytigmjpkhpoolkaa.Ents
open Go.ChangeShapes Go.WideShapes Go.RowKit EntMath
set_option maxRecDepth 20000 in
theorem ent_cells_int : Try.prog.cellsOf 3 = 1 := by kernel_rfl
set_option maxRecDepth 20000 in
theorem ent_cells_place : Try.prog.cellsOf 26 = 2 := by kernel_rfl
set_option maxRecDepth 20000 in
theorem ent_cells_entry : Try.prog.cellsOf 28 = 6 := by kernel_rfl
set_option maxRecDepth 20000 in
theorem ent_cells_list : Try.prog.cellsOf 29 = 1 := by kernel_rfl
set_option maxRecDepth 20000 in
theorem ent_some {α : Type} {l : List α} {i n : Nat} (hl : l.length = n) (hi : i < n) : ∃ y, l[i]? = some y := ⟨l[i]'(by omega), List.getElem?_eq_getElem (by omega)⟩
section
variable {H : Type} {enc : TypeId × Value → H} {w : World} {base : Nat} {spare : Nat → Bool} {held : Bool}
set_option maxRecDepth 20000 in
theorem trod_place {fuel : Nat} {cs : List Value} {x : DataW H × List MemPlace} (h : DataW.trod enc Try.prog w base spare held fuel 26 cs = some x) : ∃ z o : Int, cs = [.int .i64 z, .int .i64 o] := by
  obtain ⟨xs, n, _, _, hl4, hlen, hg⟩ := DataW.trod_struct Try.underlying26 h
  rw [ent_cells_place] at hl4
  match cs, hl4 with
  | [x0, x1], _ =>
    have hl : xs.length = 2 := hlen
    obtain ⟨y0, e0⟩ := ent_some hl (i := 0) (by decide)
    obtain ⟨y1, e1⟩ := ent_some hl (i := 1) (by decide)
    have g0 : DataW.trod enc Try.prog w base spare held n 3 (([x0, x1].drop 0).take (Try.prog.cellsOf 3)) = some y0 := (hg 0 _ rfl).trans e0
    rw [ent_cells_int] at g0
    have g1 : DataW.trod enc Try.prog w base spare held n 3 (([x0, x1].drop 1).take (Try.prog.cellsOf 3)) = some y1 := (hg 1 _ rfl).trans e1
    rw [ent_cells_int] at g1
    obtain ⟨z, h0, _⟩ := DataW.trod_int Try.underlying3 g0
    obtain ⟨o, h1, _⟩ := DataW.trod_int Try.underlying3 g1
    simp at h0 h1
    exact ⟨z, o, by rw [h0, h1]⟩
set_option maxRecDepth 20000 in
theorem trod_entry {fuel : Nat} {cs : List Value} {x : DataW H × List MemPlace} (h : DataW.trod enc Try.prog w base spare held fuel 28 cs = some x) : ∃ e : Ent, cs = entC e := by
  obtain ⟨xs, n, _, _, hl4, hlen, hg⟩ := DataW.trod_struct Try.underlying28 h
  rw [ent_cells_entry] at hl4
  match cs, hl4 with
  | [x0, x1, x2, x3, x4, x5], _ =>
    have hl : xs.length = 5 := hlen
    obtain ⟨y0, e0⟩ := ent_some hl (i := 0) (by decide)
    obtain ⟨y1, e1⟩ := ent_some hl (i := 1) (by decide)
    obtain ⟨y2, e2⟩ := ent_some hl (i := 2) (by decide)
    obtain ⟨y3, e3⟩ := ent_some hl (i := 3) (by decide)
    obtain ⟨y4, e4⟩ := ent_some hl (i := 4) (by decide)
    have g0 : DataW.trod enc Try.prog w base spare held n 3 (([x0, x1, x2, x3, x4, x5].drop 0).take (Try.prog.cellsOf 3)) = some y0 := (hg 0 _ rfl).trans e0
    rw [ent_cells_int] at g0
    obtain ⟨k0, h0, _⟩ := DataW.trod_int Try.underlying3 g0
    have g1 : DataW.trod enc Try.prog w base spare held n 3 (([x0, x1, x2, x3, x4, x5].drop 1).take (Try.prog.cellsOf 3)) = some y1 := (hg 1 _ rfl).trans e1
    rw [ent_cells_int] at g1
    obtain ⟨k1, h1, _⟩ := DataW.trod_int Try.underlying3 g1
    have g2 : DataW.trod enc Try.prog w base spare held n 3 (([x0, x1, x2, x3, x4, x5].drop 2).take (Try.prog.cellsOf 3)) = some y2 := (hg 2 _ rfl).trans e2
    rw [ent_cells_int] at g2
    obtain ⟨k2, h2, _⟩ := DataW.trod_int Try.underlying3 g2
    have g3 : DataW.trod enc Try.prog w base spare held n 3 (([x0, x1, x2, x3, x4, x5].drop 3).take (Try.prog.cellsOf 3)) = some y3 := (hg 3 _ rfl).trans e3
    rw [ent_cells_int] at g3
    obtain ⟨k3, h3, _⟩ := DataW.trod_int Try.underlying3 g3
    have g4 : DataW.trod enc Try.prog w base spare held n 26 (([x0, x1, x2, x3, x4, x5].drop 4).take (Try.prog.cellsOf 26)) = some y4 := (hg 4 _ rfl).trans e4
    rw [ent_cells_place] at g4
    obtain ⟨k4, k5, h4⟩ := trod_place g4
    simp at h0 h1 h2 h3 h4
    exact ⟨⟨k0, k1, k2, k3, k4, k5⟩, by rw [h0, h1, h2, h3, h4.1, h4.2]; rfl⟩
set_option maxRecDepth 20000 in
/-- a list of entries among data -/
theorem trod_entries {fuel : Nat} {cs : List Value} {x : DataW H × List MemPlace} (h : DataW.trod enc Try.prog w base spare held fuel 29 cs = some x) (hb : ∀ a len cap, cs = [.slice (some a) len cap] → a.block < w.heap.size) : ∃ a len cap L, cs = [.slice a len cap] ∧ EList w (fun b => b < w.heap.size) a len cap L := by
  rcases DataW.trod_slice Try.underlying29 h with ⟨rfl, _⟩ | ⟨a, len, cap, elems, rest, n, _, rfl, _, _, hl, hm, hlen, hel, _, _⟩
  · exact ⟨none, 0, 0, [], rfl, .inl ⟨trivial, rfl, rfl, rfl⟩⟩
  have each : ∀ i, i < len → ∃ e : Ent, ∀ j u, (entC e)[j]? = some u → w.cell? (a.add (i * 6 + j)) = some u := by
    intro i hi
    obtain ⟨y, hy⟩ : ∃ y, elems[i]? = some y := ⟨elems[i]'(by omega), List.getElem?_eq_getElem (by omega)⟩
    have h1 := (hel i hi).trans hy
    rw [ent_cells_entry, Option.bind_eq_some_iff] at h1
    obtain ⟨cs, hcs, ht⟩ := h1
    obtain ⟨e, rfl⟩ := trod_entry ht
    refine ⟨e, fun j u hu => ?_⟩
    obtain ⟨h1, h2⟩ := World.cells?_some hcs
    have hj : j < 6 := by have := (List.getElem?_eq_some_iff.1 hu).1; simpa [entC] using this
    have := (h2.2 j hj).trans hu
    rwa [Addr.add_add] at this
  have build : ∀ n, n ≤ len → ∃ L : List Ent, L.length = n ∧ ∀ j u, (ents L)[j]? = some u → w.cell? (a.add j) = some u := by
    intro n
    induction n with
    | zero => intro _; exact ⟨[], rfl, fun j u hu => by simp [ents] at hu⟩
    | succ n ih =>
      intro hn
      obtain ⟨L, hL, hall⟩ := ih (by omega)
      obtain ⟨e, he⟩ := each n (by omega)
      refine ⟨L ++ [e], by simp [hL], fun j u hu => ?_⟩
      rw [ents_append, ents_one] at hu
      rcases Nat.lt_or_ge j (n * 6) with hj | hj
      · rw [List.getElem?_append_left (by rw [ents_length, hL]; exact hj)] at hu
        exact hall j u hu
      · rw [List.getElem?_append_right (by rw [ents_length, hL]; exact hj), ents_length, hL] at hu
        have := he (j - n * 6) u hu
        rwa [show n * 6 + (j - n * 6) = j by omega] at this
  obtain ⟨L, hL, hall⟩ := build len (Nat.le_refl _)
  exact ⟨some a, len, cap, L, rfl, .inr ⟨a, rfl, hl, hm, hL, hb _ _ _ rfl, hb _ _ _ rfl, hall⟩⟩
set_option maxRecDepth 20000 in
/-- the block of a slice that came in -/
theorem ent_slice_in {w : World} {r : Reach} {b0 : Nat} {u : TypeId} {a : Addr} {len cap : Nat} (h : Cell.okWide Try.prog w r b0 u (.slice (some a) len cap)) : a.block < w.heap.size := by
  have hs : (∃ row cells, w.shape? a.block = some (row, cells)) → a.block < w.heap.size := by
    rintro ⟨row, cells, h⟩
    unfold World.shape? at h
    rcases Nat.lt_or_ge a.block w.heap.size with hl | hl
    · exact hl
    · rw [Array.getElem?_eq_none hl] at h
      cases h
  unfold Cell.okWide at h
  split at h
  all_goals first
    | (rename_i hv; cases hv; done)
    | (rename_i hu hv; cases hv; done)
    | skip
  unfold Cell.ok at h
  split at h
  all_goals first
    | (rename_i hv; cases hv; done)
    | (rename_i hu hv; cases hv; done)
    | exact h.elim
    | skip
  rename_i hv
  cases hv
  obtain ⟨_, _, _, _, row, cells, hsh, _⟩ := h
  exact hs ⟨row, cells, hsh⟩
set_option maxRecDepth 20000 in
theorem open_ents {r : Reach} {b0 : Nat} {v : Value} {d : DataW H} {p : List MemPlace}
    (hok : Value.okWide Try.prog w r b0 29 v) (h : DataW.Trod enc Try.prog w base spare held 29 v d p) :
    ∃ (a : Option Addr) (len cap : Nat) (L : List Ent), v = .slice a len cap ∧ EList w (fun b => b < w.heap.size) a len cap L := by
  obtain ⟨a, len, cap, rfl⟩ := okWide_slice Try.underlying29 hok
  have hblk : ∀ a' len' cap', (Value.slice a len cap).cells.toList = [.slice (some a') len' cap'] → a'.block < w.heap.size := by
    intro a' len' cap' e
    simp [Value.cells] at e
    obtain ⟨rfl, rfl, rfl⟩ := e
    simp only [Value.okWide, Try.underlying29] at hok
    exact ent_slice_in hok
  obtain ⟨fuel, hf⟩ := h
  obtain ⟨a', len', cap', L, e, hl⟩ := trod_entries hf hblk
  simp [Value.cells] at e
  obtain ⟨rfl, rfl, rfl⟩ := e
  exact ⟨_, _, _, L, rfl, hl⟩
set_option maxRecDepth 20000 in
theorem open_ent {r : Reach} {b0 : Nat} {v : Value} {d : DataW H} {p : List MemPlace}
    (hok : Value.okWide Try.prog w r b0 28 v) (h : DataW.Trod enc Try.prog w base spare held 28 v d p) : ∃ e : Ent, v = entV e := by
  obtain ⟨cs, rfl, _⟩ := okWide_struct Try.underlying28 hok
  obtain ⟨fuel, hf⟩ := h
  obtain ⟨e, he⟩ := trod_entry hf
  obtain ⟨l⟩ := cs
  have he' : l = entC e := he
  subst he'
  exact ⟨e, rfl⟩
set_option maxRecDepth 20000 in
theorem open_place {r : Reach} {b0 : Nat} {v : Value} {d : DataW H} {p : List MemPlace}
    (hok : Value.okWide Try.prog w r b0 26 v) (h : DataW.Trod enc Try.prog w base spare held 26 v d p) : ∃ z o : Int, v = .agg #[.int .i64 z, .int .i64 o] := by
  obtain ⟨cs, rfl, _⟩ := okWide_struct Try.underlying26 hok
  obtain ⟨fuel, hf⟩ := h
  obtain ⟨z, o, he⟩ := trod_place hf
  obtain ⟨l⟩ := cs
  have he' : l = [.int .i64 z, .int .i64 o] := he
  subst he'
  exact ⟨z, o, rfl⟩
end
end Go.Proofs.Ytigmjpkhpoolkaa.Ents
