
/- Counters that come in. -/
import Derived.Test.YtigmjpkhpoolkaaCntIs
import Derived.Test.YtigmjpkhpoolkaaEntOpen
import Derived.Test.YtigmjpkhpoolkaaMakeDice
namespace Go.Proofs.Ytigmjpkhpoolkaa.Ents
open Go.ChangeShapes Go.WideShapes Go.RowKit EntMath CntMath
set_option maxRecDepth 20000 in
theorem cnt_cells_ints : Try.prog.cellsOf 22 = 1 := by kernel_rfl
set_option maxRecDepth 20000 in
theorem cnt_cells_cnt : Try.prog.cellsOf 24 = 2 := by kernel_rfl
theorem row_list {w : World} {a : Option Addr} {l c : Nat} {zs : List Int} (h : IsRow .i64 w a l c zs) : IList w (fun b => b < w.heap.size) a l c (zs.take l) := by
  rcases h with ⟨rfl, rfl, rfl, rfl⟩ | ⟨x, rfl, h1, h2, h3, h4, _⟩
  · exact .inl ⟨trivial, rfl, rfl, rfl⟩
  · by_cases hc : c = 0
    · subst hc
      obtain rfl : l = 0 := by omega
      exact .inl ⟨trivial, rfl, rfl, rfl⟩
    · have hb : x.block < w.heap.size := by
        have := World.block_lt_of_cell? w _ (h4 0 (by omega))
        rwa [ent_add_block] at this
      refine .inr ⟨x, rfl, h1, h2, by rw [List.length_take]; omega, hb, hb, fun j z hz => ?_⟩
      rw [List.getElem?_take] at hz
      split at hz
      · have hlt := (List.getElem?_eq_some_iff.1 hz).1
        rw [h4 j hlt, List.getD_eq_getElem?_getD, hz]
        rfl
      · cases hz
section
variable {H : Type} {enc : TypeId × Value → H} {w : World} {base : Nat} {spare : Nat → Bool}
set_option maxRecDepth 20000 in
theorem trod_ilist (hs : ∀ b, spare b = true) {fuel : Nat} {v : Value} {x : DataW H × List MemPlace} (h : DataW.trod enc Try.prog w base spare true fuel 22 [v] = some x) : ∃ a n c Z, v = .slice a n c ∧ IList w (fun b => b < w.heap.size) a n c Z := by
  rcases open_ints Try.underlying22 Try.underlying3 (by kernel_rfl) h with ⟨hcs, _⟩ | ⟨x, l, c, zs, hcs, _, hl, hm, hz, _, hcell, hwz⟩
  · simp at hcs
    exact ⟨_, _, _, [], hcs, .inl ⟨trivial, rfl, rfl, rfl⟩⟩
  · simp at hcs
    exact ⟨_, _, _, _, hcs, row_list (.inr ⟨_, rfl, hl, hm, by simpa [hs] using hz, hcell, hwz⟩)⟩
set_option maxRecDepth 20000 in
theorem open_cnt {r : Reach} {b0 : Nat} {v : Value} {d : DataW H} {p : List MemPlace} (hs : ∀ b, spare b = true)
    (hok : Value.okWide Try.prog w r b0 24 v) (h : DataW.Trod enc Try.prog w base spare true 24 v d p) :
    ∃ (a : Option Addr) (n c : Nat) (a2 : Option Addr) (n2 c2 : Nat) (C : Cnt), v = cntV a n c a2 n2 c2 ∧ CList w (fun b => b < w.heap.size) a n c a2 n2 c2 C := by
  obtain ⟨cs, rfl, hsz⟩ := okWide_struct Try.underlying24 hok
  obtain ⟨l⟩ := cs
  match l, hsz.trans cnt_cells_cnt with
  | [x0, x1], _ =>
    obtain ⟨fuel, hf⟩ := h
    obtain ⟨xs, n, _, _, _, hlen, hg⟩ := DataW.trod_struct Try.underlying24 hf
    have hl : xs.length = 2 := hlen
    obtain ⟨y0, e0⟩ := ent_some hl (i := 0) (by decide)
    obtain ⟨y1, e1⟩ := ent_some hl (i := 1) (by decide)
    have g0 : DataW.trod enc Try.prog w base spare true n 22 (([x0, x1].drop 0).take (Try.prog.cellsOf 22)) = some y0 := (hg 0 _ rfl).trans e0
    have g1 : DataW.trod enc Try.prog w base spare true n 22 (([x0, x1].drop 1).take (Try.prog.cellsOf 22)) = some y1 := (hg 1 _ rfl).trans e1
    rw [cnt_cells_ints] at g0 g1
    obtain ⟨a, n, c, Z, rfl, h0⟩ := trod_ilist hs g0
    obtain ⟨a2, n2, c2, Z2, rfl, h1⟩ := trod_ilist hs g1
    exact ⟨a, n, c, a2, n2, c2, ⟨Z, Z2⟩, rfl, ⟨h0, h1⟩⟩
end
end Go.Proofs.Ytigmjpkhpoolkaa.Ents
