
/- A configuration that comes in: its six fields; six numbers in an array. -/
import Derived.Test.YtolpnlemaoabkaaDoorProg
import Derived.WalkKit
import Derived.ProofKit
import Derived.OpenShut
import Derived.ShutString
import Derived.KernelRfl
namespace Go.Proofs.YtolpnlemaoabkaaDoor
open Go.ChangeShapes Go.WideShapes Go.RowKit

theorem lay_cells_int : Tryd.prog.cellsOf 3 = 1 := by kernel_rfl
theorem lay_cells_conf : Tryd.prog.cellsOf 23 = 6 := by kernel_rfl
theorem lay_some {α : Type} {l : List α} {i n : Nat} (hl : l.length = n) (hi : i < n) : ∃ y, l[i]? = some y := ⟨l[i]'(by omega), List.getElem?_eq_getElem (by omega)⟩
theorem lay_wide_array {P : Program} {w : World} {r : Reach} {b0 n : Nat} {t e : TypeId} {v : Value} (ht : P.underlying t = some (.array n e)) (h : Value.okWide P w r b0 t v) : ∃ cs, v = .agg cs ∧ cs.size = P.cellsOf t := by
  simp only [Value.okWide, ht] at h
  obtain ⟨cs, h1, h2, _⟩ := h
  exact ⟨cs, h1, h2⟩
theorem open_conf {H : Type} {enc : TypeId × Value → H} {w : World} {base : Nat} {spare : Nat → Bool} {held : Bool} {r : Reach} {b0 : Nat} {v : Value} {d : DataW H} {p : List MemPlace}
    (hok : Value.okWide Tryd.prog w r b0 23 v) (h : DataW.Trod enc Tryd.prog w base spare held 23 v d p) :
    ∃ n0 n1 n2 n3 n4 n5 : Int, v = .agg #[.int .i64 n0, .int .i64 n1, .int .i64 n2, .int .i64 n3, .int .i64 n4, .int .i64 n5] := by
  obtain ⟨cs, rfl, hsz⟩ := okWide_struct Tryd.underlying23 hok
  obtain ⟨l⟩ := cs
  match l, hsz.trans lay_cells_conf with
  | [x0, x1, x2, x3, x4, x5], _ =>
    obtain ⟨fuel, hf⟩ := h
    obtain ⟨xs, n, _, _, _, hlen, hg⟩ := DataW.trod_struct Tryd.underlying23 hf
    have hl : xs.length = 6 := hlen
    obtain ⟨y0, e0⟩ := lay_some hl (i := 0) (by decide)
    obtain ⟨y1, e1⟩ := lay_some hl (i := 1) (by decide)
    obtain ⟨y2, e2⟩ := lay_some hl (i := 2) (by decide)
    obtain ⟨y3, e3⟩ := lay_some hl (i := 3) (by decide)
    obtain ⟨y4, e4⟩ := lay_some hl (i := 4) (by decide)
    obtain ⟨y5, e5⟩ := lay_some hl (i := 5) (by decide)
    have g0 : DataW.trod enc Tryd.prog w base spare held n 3 (([x0, x1, x2, x3, x4, x5].drop 0).take (Tryd.prog.cellsOf 3)) = some y0 := (hg 0 _ rfl).trans e0
    rw [lay_cells_int] at g0
    have g1 : DataW.trod enc Tryd.prog w base spare held n 3 (([x0, x1, x2, x3, x4, x5].drop 1).take (Tryd.prog.cellsOf 3)) = some y1 := (hg 1 _ rfl).trans e1
    rw [lay_cells_int] at g1
    have g2 : DataW.trod enc Tryd.prog w base spare held n 3 (([x0, x1, x2, x3, x4, x5].drop 2).take (Tryd.prog.cellsOf 3)) = some y2 := (hg 2 _ rfl).trans e2
    rw [lay_cells_int] at g2
    have g3 : DataW.trod enc Tryd.prog w base spare held n 3 (([x0, x1, x2, x3, x4, x5].drop 3).take (Tryd.prog.cellsOf 3)) = some y3 := (hg 3 _ rfl).trans e3
    rw [lay_cells_int] at g3
    have g4 : DataW.trod enc Tryd.prog w base spare held n 3 (([x0, x1, x2, x3, x4, x5].drop 4).take (Tryd.prog.cellsOf 3)) = some y4 := (hg 4 _ rfl).trans e4
    rw [lay_cells_int] at g4
    have g5 : DataW.trod enc Tryd.prog w base spare held n 3 (([x0, x1, x2, x3, x4, x5].drop 5).take (Tryd.prog.cellsOf 3)) = some y5 := (hg 5 _ rfl).trans e5
    rw [lay_cells_int] at g5
    obtain ⟨k0, h0, _⟩ := DataW.trod_int Tryd.underlying3 g0
    obtain ⟨k1, h1, _⟩ := DataW.trod_int Tryd.underlying3 g1
    obtain ⟨k2, h2, _⟩ := DataW.trod_int Tryd.underlying3 g2
    obtain ⟨k3, h3, _⟩ := DataW.trod_int Tryd.underlying3 g3
    obtain ⟨k4, h4, _⟩ := DataW.trod_int Tryd.underlying3 g4
    obtain ⟨k5, h5, _⟩ := DataW.trod_int Tryd.underlying3 g5
    simp at h0 h1 h2 h3 h4 h5
    exact ⟨k0, k1, k2, k3, k4, k5, by rw [h0, h1, h2, h3, h4, h5]⟩
end Go.Proofs.YtolpnlemaoabkaaDoor
