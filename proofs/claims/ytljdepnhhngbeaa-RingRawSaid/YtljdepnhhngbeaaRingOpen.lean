
/- Requests and rings that come in. -/
import Derived.Test.YtljdepnhhngbeaaRingIs
import Derived.Test.YtljdepnhhngbeaaBaseRowsOpen
namespace Go.Proofs.Ytljdepnhhngbeaa.Ents
open Go.ChangeShapes Go.WideShapes Go.RowKit RingMath Rws
set_option maxRecDepth 20000 in
theorem ring_cells : Try.prog.cellsOf 24 = 2 := by kernel_rfl
set_option maxRecDepth 20000 in
theorem req_cells : Try.prog.cellsOf 28 = 4 := by kernel_rfl
set_option maxRecDepth 20000 in
theorem comd_cells : Try.prog.cellsOf 26 = 3 := by kernel_rfl
set_option maxRecDepth 20000 in
theorem reqs_cells : Try.prog.cellsOf 22 = 1 := by kernel_rfl
set_option maxRecDepth 20000 in
theorem rstr_cells : Try.prog.cellsOf 9 = 1 := by kernel_rfl
section
variable {H : Type} {enc : TypeId × Value → H} {w : World} {base : Nat} {spare : Nat → Bool}
set_option maxRecDepth 20000 in
theorem trod_comd {held : Bool} {fuel : Nat} {cs : List Value} {x : DataW H × List MemPlace} (h : DataW.trod enc Try.prog w base spare held fuel 26 cs = some x) : ∃ (k b : Int) (s : ByteArray), cs = [.int .i64 k, .int .i64 b, .string s] ∧ s.size ≤ maxLen := by
  obtain ⟨xs, n, _, _, hl4, hlen, hg⟩ := DataW.trod_struct Try.underlying26 h
  rw [comd_cells] at hl4
  match cs, hl4 with
  | [x0, x1, x2], _ =>
    have hl : xs.length = 3 := hlen
    obtain ⟨y0, e0⟩ := ent_some hl (i := 0) (by decide)
    obtain ⟨y1, e1⟩ := ent_some hl (i := 1) (by decide)
    obtain ⟨y2, e2⟩ := ent_some hl (i := 2) (by decide)
    have g0 : DataW.trod enc Try.prog w base spare held n 3 (([x0, x1, x2].drop 0).take (Try.prog.cellsOf 3)) = some y0 := (hg 0 _ rfl).trans e0
    rw [ent_cells_int] at g0
    have g1 : DataW.trod enc Try.prog w base spare held n 3 (([x0, x1, x2].drop 1).take (Try.prog.cellsOf 3)) = some y1 := (hg 1 _ rfl).trans e1
    rw [ent_cells_int] at g1
    have g2 : DataW.trod enc Try.prog w base spare held n 9 (([x0, x1, x2].drop 2).take (Try.prog.cellsOf 9)) = some y2 := (hg 2 _ rfl).trans e2
    rw [rstr_cells] at g2
    obtain ⟨k, h0, _⟩ := DataW.trod_int Try.underlying3 g0
    obtain ⟨b, h1, _⟩ := DataW.trod_int Try.underlying3 g1
    obtain ⟨s, h2, _, w2⟩ := DataW.trod_string Try.underlying9 g2
    simp at h0 h1 h2
    exact ⟨k, b, s, by rw [h0, h1, h2], w2⟩
set_option maxRecDepth 20000 in
theorem trod_req {held : Bool} {fuel : Nat} {cs : List Value} {x : DataW H × List MemPlace} (h : DataW.trod enc Try.prog w base spare held fuel 28 cs = some x) : ∃ r : Rq, cs = RQ.c r := by
  obtain ⟨xs, n, _, _, hl4, hlen, hg⟩ := DataW.trod_struct Try.underlying28 h
  rw [req_cells] at hl4
  match cs, hl4 with
  | [x0, x1, x2, x3], _ =>
    have hl : xs.length = 2 := hlen
    obtain ⟨y0, e0⟩ := ent_some hl (i := 0) (by decide)
    obtain ⟨y1, e1⟩ := ent_some hl (i := 1) (by decide)
    have g0 : DataW.trod enc Try.prog w base spare held n 3 (([x0, x1, x2, x3].drop 0).take (Try.prog.cellsOf 3)) = some y0 := (hg 0 _ rfl).trans e0
    rw [ent_cells_int] at g0
    have g1 : DataW.trod enc Try.prog w base spare held n 26 (([x0, x1, x2, x3].drop 1).take (Try.prog.cellsOf 26)) = some y1 := (hg 1 _ rfl).trans e1
    rw [comd_cells] at g1
    obtain ⟨z, h0, _⟩ := DataW.trod_int Try.underlying3 g0
    obtain ⟨k, b, s, h1, _⟩ := trod_comd g1
    simp at h0 h1
    exact ⟨⟨z, k, b, s⟩, by rw [h0, h1.1, h1.2.1, h1.2.2]; rfl⟩
set_option maxRecDepth 20000 in
theorem open_req {held : Bool} {r : Reach} {b0 : Nat} {v : Value} {d : DataW H} {p : List MemPlace}
    (hok : Value.okWide Try.prog w r b0 28 v) (h : DataW.Trod enc Try.prog w base spare held 28 v d p) :
    ∃ (z k b : Int) (s : ByteArray), v = .agg #[.int .i64 z, .int .i64 k, .int .i64 b, .string s] := by
  obtain ⟨cs, rfl, hsz⟩ := okWide_struct Try.underlying28 hok
  obtain ⟨l⟩ := cs
  obtain ⟨fuel, hf⟩ := h
  obtain ⟨q, hq⟩ := trod_req hf
  have hl : l = RQ.c q := hq
  exact ⟨q.serial, q.kind, q.block, q.data, by rw [hl]; rfl⟩
set_option maxRecDepth 20000 in
theorem open_ring {r : Reach} {b0 : Nat} {v : Value} {d : DataW H} {p : List MemPlace} (hs : ∀ b, spare b = true)
    (hok : Value.okWide Try.prog w r b0 24 v) (h : DataW.Trod enc Try.prog w base spare true 24 v d p) :
    ∃ (g : Int) (a : Option Addr) (n c : Nat) (L : List Rq), v = rgV g a n c ∧ GList w (fun b => b < w.heap.size) a n c L := by
  obtain ⟨cs, rfl, hsz⟩ := okWide_struct Try.underlying24 hok
  obtain ⟨l⟩ := cs
  match l, hsz.trans ring_cells with
  | [x0, x1], _ =>
    obtain ⟨fuel, hf⟩ := h
    obtain ⟨xs, n, _, _, _, hlen, hg⟩ := DataW.trod_struct Try.underlying24 hf
    have hl : xs.length = 2 := hlen
    obtain ⟨y0, e0⟩ := ent_some hl (i := 0) (by decide)
    obtain ⟨y1, e1⟩ := ent_some hl (i := 1) (by decide)
    have g0 : DataW.trod enc Try.prog w base spare true n 3 (([x0, x1].drop 0).take (Try.prog.cellsOf 3)) = some y0 := (hg 0 _ rfl).trans e0
    rw [ent_cells_int] at g0
    have g1 : DataW.trod enc Try.prog w base spare true n 22 (([x0, x1].drop 1).take (Try.prog.cellsOf 22)) = some y1 := (hg 1 _ rfl).trans e1
    rw [reqs_cells] at g1
    obtain ⟨z, h0, _⟩ := DataW.trod_int Try.underlying3 g0
    obtain ⟨b, m, d, L, hb, h2⟩ := trod_rows rqOk req_cells trod_req hs g1
    simp at h0 hb
    subst h0
    subst hb
    exact ⟨z, b, m, d, L, rfl, h2⟩
end
end Go.Proofs.Ytljdepnhhngbeaa.Ents
