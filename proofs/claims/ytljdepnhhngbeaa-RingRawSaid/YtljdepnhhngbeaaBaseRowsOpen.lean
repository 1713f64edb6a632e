
/- Lists of elements of any type that come in; how long they may be. -/
import Derived.Test.YtljdepnhhngbeaaBaseRows
import Derived.Test.YtljdepnhhngbeaaEntOpen
import Derived.SizedLaws
namespace Go.Proofs.Ytljdepnhhngbeaa.Rws
open Go.ChangeShapes Go.WideShapes Go.RowKit Ents
section
variable {H : Type} {enc : TypeId × Value → H} {w : World} {base : Nat} {spare : Nat → Bool} {held : Bool} {α : Type} {R : Row α}
theorem rows_block {a : Addr} {i k n : Nat} {cs : List Value} (hk : 0 < k) (h : w.cells? n (a.add i) k = some cs) : a.block < w.heap.size := by
  obtain ⟨_, h1, h2⟩ := World.cells?_some h
  have h4 : cs[0]? = some (cs[0]'(by omega)) := List.getElem?_eq_getElem _
  have := World.block_lt_of_cell? w _ ((h2 0 hk).trans h4)
  rwa [ent_add_block, ent_add_block] at this
set_option maxRecDepth 20000 in
theorem trod_rows (hR : R.Ok) (hc : Try.prog.cellsOf R.et = R.sz) (hE : ∀ {fuel : Nat} {cs : List Value} {x : DataW H × List MemPlace}, DataW.trod enc Try.prog w base spare held fuel R.et cs = some x → ∃ e, cs = R.c e)
    (hs : ∀ b, spare b = true) {fuel : Nat} {cs : List Value} {x : DataW H × List MemPlace} (h : DataW.trod enc Try.prog w base spare held fuel R.st cs = some x) : ∃ a len cap L, cs = [.slice a len cap] ∧ TList R w (fun b => b < w.heap.size) a len cap L := by
  rcases DataW.trod_slice hR.und h with ⟨rfl, _⟩ | ⟨a, len, cap, elems, rest, n, _, rfl, _, _, hl, hm, hlen, hel, hsp, _⟩
  · exact ⟨none, 0, 0, [], rfl, .inl ⟨trivial, rfl, rfl, rfl⟩⟩
  rw [hc] at hel hsp
  by_cases hcap : cap = 0
  · subst hcap
    obtain rfl : len = 0 := by omega
    exact ⟨some a, 0, 0, [], rfl, .inl ⟨trivial, rfl, rfl, rfl⟩⟩
  have hblk : a.block < w.heap.size := by
    by_cases h0 : 0 < len
    · obtain ⟨y, hy⟩ := ent_some hlen h0
      have h1 := (hel 0 h0).trans hy
      rw [Option.bind_eq_some_iff] at h1
      obtain ⟨cs, hcs, _⟩ := h1
      exact rows_block hR.pos hcs
    · obtain ⟨hr, hre⟩ := hsp (hs _)
      obtain ⟨y, hy⟩ := ent_some hr (i := 0) (by omega)
      have h1 := (hre 0 (by omega)).trans hy
      rw [Option.bind_eq_some_iff] at h1
      obtain ⟨cs, hcs, _⟩ := h1
      exact rows_block hR.pos hcs
  have each : ∀ i, i < len → ∃ e : α, ∀ j u, (R.c e)[j]? = some u → w.cell? (a.add (i * R.sz + j)) = some u := by
    intro i hi
    obtain ⟨y, hy⟩ := ent_some hlen hi
    have h1 := (hel i hi).trans hy
    rw [Option.bind_eq_some_iff] at h1
    obtain ⟨cs, hcs, ht⟩ := h1
    obtain ⟨e, rfl⟩ := hE ht
    refine ⟨e, fun j u hu => ?_⟩
    obtain ⟨h1, h2⟩ := World.cells?_some hcs
    have hj : j < R.sz := by have := (List.getElem?_eq_some_iff.1 hu).1; rwa [hR.len] at this
    have := (h2.2 j hj).trans hu
    rwa [Addr.add_add] at this
  have build : ∀ n, n ≤ len → ∃ L : List α, L.length = n ∧ ∀ j u, (R.all L)[j]? = some u → w.cell? (a.add j) = some u := by
    intro n
    induction n with
    | zero => intro _; exact ⟨[], rfl, fun j u hu => by simp [Row.all] at hu⟩
    | succ n ih =>
      intro hn
      obtain ⟨L, hL, hall⟩ := ih (by omega)
      obtain ⟨e, he⟩ := each n (by omega)
      refine ⟨L ++ [e], by simp [hL], fun j u hu => ?_⟩
      rw [all_append, all_one] at hu
      rcases Nat.lt_or_ge j (n * R.sz) with hj | hj
      · rw [List.getElem?_append_left (by rw [all_length hR, hL]; exact hj)] at hu
        exact hall j u hu
      · rw [List.getElem?_append_right (by rw [all_length hR, hL]; exact hj), all_length hR, hL] at hu
        have := he (j - n * R.sz) u hu
        rwa [show n * R.sz + (j - n * R.sz) = j by omega] at this
  obtain ⟨L, hL, hall⟩ := build len (Nat.le_refl _)
  exact ⟨some a, len, cap, L, rfl, .inr ⟨a, rfl, hl, hm, hL, hblk, hblk, hall⟩⟩
set_option maxRecDepth 20000 in
theorem rows_len (hR : R.Ok) (hb : Try.prog.bytesOf R.et = R.wide) (hw : 0 < R.wide) {fuel : Nat} {b : Option Addr} {m k : Nat} {x : DataW H × List MemPlace} (h : DataW.trod enc Try.prog w base spare held fuel R.st [.slice b m k] = some x) (hr : ∀ y ∈ x.1.weights Try.prog R.st, y ≤ reachBytes) : m ≤ reachBytes := by
  rcases DataW.trod_slice hR.und h with ⟨hc, _⟩ | ⟨a', len', cap', elems, rest, n', _, hc, hy, _, _, _, hel, _, _, _⟩
  · simp at hc
    rw [hc.2.1]
    exact Nat.zero_le _
  · simp at hc
    obtain ⟨-, rfl, rfl⟩ := hc
    have h1 := hr ((elems.length + rest.length) * R.wide) (by rw [hy]; simp [DataW.weights, hR.und, hb])
    have h2 : elems.length + rest.length ≤ (elems.length + rest.length) * R.wide := Nat.le_mul_of_pos_right _ hw
    omega
end
end Go.Proofs.Ytljdepnhhngbeaa.Rws
