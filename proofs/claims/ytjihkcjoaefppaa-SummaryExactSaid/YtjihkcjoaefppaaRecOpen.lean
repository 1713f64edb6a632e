/- A record that comes in: its five fields. -/
import Derived.Test.YtjihkcjoaefppaaProg
import Derived.WalkKit
import Derived.ProofKit
import Derived.OpenShut
import Derived.ShutString
import Derived.KernelRfl
namespace Go.Proofs.Ytjihkcjoaefppaa
open Go.ChangeShapes Go.WideShapes Go.RowKit

theorem cells_int : Try.prog.cellsOf 3 = 1 := by kernel_rfl
theorem cells_str : Try.prog.cellsOf 9 = 1 := by kernel_rfl
theorem cells_rec : Try.prog.cellsOf 24 = 5 := by kernel_rfl
theorem some_of {α : Type} {l : List α} {i n : Nat} (hl : l.length = n) (hi : i < n) : ∃ y, l[i]? = some y := ⟨l[i]'(by omega), List.getElem?_eq_getElem (by omega)⟩
theorem open_rec {H : Type} {enc : TypeId × Value → H} {w : World} {base : Nat} {spare : Nat → Bool} {held : Bool} {r : Reach} {b0 : Nat} {v : Value} {d : DataW H} {p : List MemPlace}
    (hok : Value.okWide Try.prog w r b0 24 v) (h : DataW.Trod enc Try.prog w base spare held 24 v d p) :
    ∃ (k b vn m : Int) (s : ByteArray), v = .agg #[.int .i64 k, .int .i64 b, .int .i64 vn, .int .i64 m, .string s] := by
  obtain ⟨cs, rfl, hsz⟩ := okWide_struct Try.underlying24 hok
  obtain ⟨l⟩ := cs
  match l, hsz.trans cells_rec with
  | [x0, x1, x2, x3, x4], _ =>
    obtain ⟨fuel, hf⟩ := h
    obtain ⟨xs, n, _, _, _, hlen, hg⟩ := DataW.trod_struct Try.underlying24 hf
    have hl : xs.length = 5 := hlen
    obtain ⟨y0, e0⟩ := some_of hl (i := 0) (by decide)
    obtain ⟨y1, e1⟩ := some_of hl (i := 1) (by decide)
    obtain ⟨y2, e2⟩ := some_of hl (i := 2) (by decide)
    obtain ⟨y3, e3⟩ := some_of hl (i := 3) (by decide)
    obtain ⟨y4, e4⟩ := some_of hl (i := 4) (by decide)
    have g0 : DataW.trod enc Try.prog w base spare held n 3 (([x0, x1, x2, x3, x4].drop 0).take (Try.prog.cellsOf 3)) = some y0 := (hg 0 _ rfl).trans e0
    rw [cells_int] at g0
    have g1 : DataW.trod enc Try.prog w base spare held n 3 (([x0, x1, x2, x3, x4].drop 1).take (Try.prog.cellsOf 3)) = some y1 := (hg 1 _ rfl).trans e1
    rw [cells_int] at g1
    have g2 : DataW.trod enc Try.prog w base spare held n 3 (([x0, x1, x2, x3, x4].drop 2).take (Try.prog.cellsOf 3)) = some y2 := (hg 2 _ rfl).trans e2
    rw [cells_int] at g2
    have g3 : DataW.trod enc Try.prog w base spare held n 3 (([x0, x1, x2, x3, x4].drop 3).take (Try.prog.cellsOf 3)) = some y3 := (hg 3 _ rfl).trans e3
    rw [cells_int] at g3
    have g4 : DataW.trod enc Try.prog w base spare held n 9 (([x0, x1, x2, x3, x4].drop 4).take (Try.prog.cellsOf 9)) = some y4 := (hg 4 _ rfl).trans e4
    rw [cells_str] at g4
    obtain ⟨k, h0, _⟩ := DataW.trod_int Try.underlying3 g0
    obtain ⟨b, h1, _⟩ := DataW.trod_int Try.underlying3 g1
    obtain ⟨vn, h2, _⟩ := DataW.trod_int Try.underlying3 g2
    obtain ⟨m, h3, _⟩ := DataW.trod_int Try.underlying3 g3
    obtain ⟨s, h4, _⟩ := DataW.trod_string Try.underlying9 g4
    simp at h0 h1 h2 h3 h4
    exact ⟨k, b, vn, m, s, by rw [h0, h1, h2, h3, h4]⟩
end Go.Proofs.Ytjihkcjoaefppaa
