
/- Locks that come in. -/
import Derived.Test.YtoclcefnecghfaaLckIs
import Derived.Test.YtoclcefnecghfaaCntOpen
namespace Go.Proofs.Ytoclcefnecghfaa.Ents
open Go.ChangeShapes Go.WideShapes Go.RowKit EntMath
set_option maxRecDepth 20000 in
theorem lck_cells : Try.prog.cellsOf 24 = 1 := by kernel_rfl
section
variable {H : Type} {enc : TypeId × Value → H} {w : World} {base : Nat} {spare : Nat → Bool}
set_option maxRecDepth 20000 in
theorem open_lck {r : Reach} {b0 : Nat} {v : Value} {d : DataW H} {p : List MemPlace} (hs : ∀ b, spare b = true)
    (hok : Value.okWide Try.prog w r b0 24 v) (h : DataW.Trod enc Try.prog w base spare true 24 v d p) :
    ∃ (a : Option Addr) (n c : Nat) (O : List Int), v = lckV a n c ∧ IList w (fun b => b < w.heap.size) a n c O := by
  obtain ⟨cs, rfl, hsz⟩ := okWide_struct Try.underlying24 hok
  obtain ⟨l⟩ := cs
  match l, hsz.trans lck_cells with
  | [x0], _ =>
    obtain ⟨fuel, hf⟩ := h
    obtain ⟨xs, n, _, _, _, hlen, hg⟩ := DataW.trod_struct Try.underlying24 hf
    have hl : xs.length = 1 := hlen
    obtain ⟨y0, e0⟩ := ent_some hl (i := 0) (by decide)
    have g0 : DataW.trod enc Try.prog w base spare true n 22 (([x0].drop 0).take (Try.prog.cellsOf 22)) = some y0 := (hg 0 _ rfl).trans e0
    rw [cnt_cells_ints] at g0
    obtain ⟨a, n, c, Z, rfl, h0⟩ := trod_ilist hs g0
    exact ⟨a, n, c, Z, rfl, h0⟩
end
end Go.Proofs.Ytoclcefnecghfaa.Ents
