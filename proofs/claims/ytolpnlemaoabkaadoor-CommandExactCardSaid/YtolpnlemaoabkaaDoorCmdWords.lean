
/- The program's words of the kinds of commands: a package-level variable that the row lists. -/
import Derived.Test.YtolpnlemaoabkaaDoorCmdIs
import Derived.Test.YtolpnlemaoabkaaDoorBaseTab
import Derived.Test.YtolpnlemaoabkaaDoorRows
namespace Go.Proofs.YtolpnlemaoabkaaDoor.Ents
open Go.RowKit Plan LayMath CmdMath
/-- the variable's cells hold the words -/
structure Words (w : World) : Prop where
  c1 : w.cell? ⟨0, 1, none⟩ = some (.string ⟨#[114, 101, 97, 100]⟩)
  c2 : w.cell? ⟨0, 2, none⟩ = some (.string ⟨#[119, 114, 105, 116, 101]⟩)
  c3 : w.cell? ⟨0, 3, none⟩ = some (.string ⟨#[116, 114, 105, 109]⟩)
  c4 : w.cell? ⟨0, 4, none⟩ = some (.string ⟨#[102, 108, 117, 115, 104]⟩)
theorem block_of_cell {w : World} {b o : Nat} {v : Value} (h : w.cell? ⟨b, o, none⟩ = some v) : b < w.heap.size := by
  unfold World.cell? at h
  by_cases hb : b < w.heap.size
  · exact hb
  · have : w.heap[b]? = none := Array.getElem?_eq_none (by omega)
    simp [this] at h
theorem Words.lt {w : World} (h : Words w) : 0 < w.heap.size := block_of_cell h.c1
theorem Words.on {w w' : World} {n : Nat} (h : Words w) (hb : Below n w w') (hn : 0 < n) : Words w' :=
  ⟨(hb.cell (p := ⟨0, _, none⟩) hn).trans h.c1, (hb.cell (p := ⟨0, _, none⟩) hn).trans h.c2, (hb.cell (p := ⟨0, _, none⟩) hn).trans h.c3, (hb.cell (p := ⟨0, _, none⟩) hn).trans h.c4⟩
theorem Words.on' {w w' : World} (h : Words w) (hb : Below w.heap.size w w') : Words w' := h.on hb h.lt
theorem cells_strT : Tryd.prog.cellsOf 9 = 1 := by kernel_rfl
theorem cells_words : Tryd.prog.cellsOf 35 = 5 := by kernel_rfl
theorem g_words : Tryd.prog.globalNamed "zoneappend/command.words" = some 0 := by kernel_rfl
theorem g_wordsT : (Tryd.prog.globals[0]?).map (·.type) = some 35 := by kernel_rfl
theorem words_of_laid {W : World} {rest : List (String × DataW Unit)} (h : laidMet Tryd.prog (("zoneappend/command.words", Rows.laid_zoneappend_command_words) :: rest) W) : Words W := by
  have h' : laidMet Tryd.prog (("zoneappend/command.words", .agg (([[], [114, 101, 97, 100], [119, 114, 105, 116, 101], [116, 114, 105, 109], [102, 108, 117, 115, 104]] : List (List UInt8)).map fun z => .lit (.string z))) :: rest) W := h
  have hv := Tab.strs_of_head g_words g_wordsT Tryd.underlying35 Tryd.underlying9 cells_strT cells_words h'
  exact ⟨by have := World.var?_cell g_words hv 1; simpa using this, by have := World.var?_cell g_words hv 2; simpa using this, by have := World.var?_cell g_words hv 3; simpa using this, by have := World.var?_cell g_words hv 4; simpa using this⟩
end Go.Proofs.YtolpnlemaoabkaaDoor.Ents
