
/- How long counters that come in may be, by the bytes that their lists take. -/
import Derived.Test.YtigmjpkhpoolkaaCntOpen
import Derived.SizedLaws
namespace Go.Proofs.Ytigmjpkhpoolkaa.Ents
open Go.ChangeShapes Go.WideShapes Go.RowKit EntMath CntMath
theorem bytes_int : Try.prog.bytesOf 3 = 8 := by kernel_rfl
theorem bytes_one : Try.prog.bytesOf 28 = 48 := by kernel_rfl
section
variable {H : Type} {enc : TypeId × Value → H} {w : World} {base : Nat} {spare : Nat → Bool} {held : Bool}
set_option maxRecDepth 20000 in
theorem ints_len {fuel : Nat} {b : Option Addr} {m k : Nat} {x : DataW H × List MemPlace} (h : DataW.trod enc Try.prog w base spare held fuel 22 [.slice b m k] = some x) (hr : ∀ y ∈ x.1.weights Try.prog 22, y ≤ reachBytes) : m ≤ reachBytes := by
  rcases DataW.trod_slice Try.underlying22 h with ⟨hc, _⟩ | ⟨a', len', cap', elems, rest, n', _, hc, hy, _, _, _, hel, _, _, _⟩
  · simp at hc
    rw [hc.2.1]
    exact Nat.zero_le _
  · simp at hc
    obtain ⟨-, rfl, rfl⟩ := hc
    have := hr ((elems.length + rest.length) * 8) (by rw [hy]; simp [DataW.weights, Try.underlying22, bytes_int])
    omega
set_option maxRecDepth 20000 in
theorem ents_len {a : Option Addr} {m k : Nat} {d : DataW H} {p : List MemPlace} (h : DataW.Trod enc Try.prog w base spare held 29 (.slice a m k) d p) (hr : ∀ y ∈ d.weights Try.prog 29, y ≤ reachBytes) : m ≤ reachBytes := by
  obtain ⟨fuel, hf⟩ := h
  have hf : DataW.trod enc Try.prog w base spare held fuel 29 [.slice a m k] = some (d, p) := hf
  rcases DataW.trod_slice Try.underlying29 hf with ⟨hc, _⟩ | ⟨a', len', cap', elems, rest, n', _, hc, hy, _, _, _, hel, _, _, _⟩
  · simp at hc
    rw [hc.2.1]
    exact Nat.zero_le _
  · simp at hc
    obtain ⟨-, rfl, rfl⟩ := hc
    have hd : d = .slice (elems.map (·.1)) (rest.map (·.1)) := congrArg Prod.fst hy
    have := hr ((elems.length + rest.length) * 48) (by rw [hd]; simp [DataW.weights, Try.underlying29, bytes_one])
    omega
set_option maxRecDepth 20000 in
theorem cnt_len {a a2 : Option Addr} {n c n2 c2 : Nat} {d : DataW H} {p : List MemPlace} (h : DataW.Trod enc Try.prog w base spare held 24 (cntV a n c a2 n2 c2) d p)
    (hr : ∀ y ∈ d.weights Try.prog 24, y ≤ reachBytes) : n ≤ reachBytes ∧ n2 ≤ reachBytes := by
  obtain ⟨fuel, hf⟩ := h
  obtain ⟨xs, f, _, hx, _, hl0, hg⟩ := DataW.trod_struct Try.underlying24 hf
  have hd : d = .agg (xs.map (·.1)) := congrArg Prod.fst hx
  have hl : xs.length = 2 := hl0
  obtain ⟨y0, e0⟩ := ent_some hl (i := 0) (by decide)
  obtain ⟨y1, e1⟩ := ent_some hl (i := 1) (by decide)
  have g0 : DataW.trod enc Try.prog w base spare held f 22 (([Value.slice a n c, Value.slice a2 n2 c2].drop 0).take (Try.prog.cellsOf 22)) = some y0 := (hg 0 _ rfl).trans e0
  have g1 : DataW.trod enc Try.prog w base spare held f 22 (([Value.slice a n c, Value.slice a2 n2 c2].drop 1).take (Try.prog.cellsOf 22)) = some y1 := (hg 1 _ rfl).trans e1
  rw [cnt_cells_ints] at g0 g1
  refine ⟨ints_len g0 fun y hy => ?_, ints_len g1 fun y hy => ?_⟩
  · refine hr y ?_
    rw [hd]
    have hm := DataW.weights_mem_each (P := Try.prog) (ts := [22, 22]) (ds := xs.map (·.1)) (j := 0) (t := 22) (d := y0.1) rfl (by rw [List.getElem?_map, e0]; rfl) y hy
    simp only [DataW.weights, Try.underlying24]
    exact hm
  · refine hr y ?_
    rw [hd]
    have hm := DataW.weights_mem_each (P := Try.prog) (ts := [22, 22]) (ds := xs.map (·.1)) (j := 1) (t := 22) (d := y1.1) rfl (by rw [List.getElem?_map, e1]; rfl) y hy
    simp only [DataW.weights, Try.underlying24]
    exact hm
theorem cnt_reach {n n2 m : Nat} (h : n ≤ reachBytes ∧ n2 ≤ reachBytes) (hm : m ≤ reachBytes) : n + n2 + m ≤ 4611686018427387904 := by
  have h4 : reachBytes = 140737488351232 := rfl
  omega
end
end Go.Proofs.Ytigmjpkhpoolkaa.Ents
