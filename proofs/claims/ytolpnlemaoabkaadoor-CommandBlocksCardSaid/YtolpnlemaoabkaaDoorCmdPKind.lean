
/- The walk of the program's Kind: the words of the kinds stand in a package-level variable. -/
import Derived.Test.YtolpnlemaoabkaaDoorCmdWords
import Derived.Test.YtolpnlemaoabkaaDoorCmdPLeaf
namespace Go.Proofs.YtolpnlemaoabkaaDoor.Ents
open Go.RowKit Plan LayMath CmdMath
set_option maxHeartbeats 4000000 in
set_option maxRecDepth 20000 in
theorem kindC_any (k b : Int) (s : ByteArray) (w : World) (hw : Words w) :
    Calls Tryd.prog 8 #[cmdV k b s] w fun r w' => r = .returned (.string (kindC k)) ∧ Below w.heap.size w w' := by
  have H1 := Lib.hid (fun W => isKindC_any k W)
  have hA := (Below.refl w.heap.size w).alloc (Nat.le_refl _) (cmdRow k b s)
  obtain ⟨c0, c1, c2⟩ := cmd_cells (heap_alloc_new w (cmdRow k b s))
  rcases kind_cases k with rfl | rfl | rfl | rfl | ⟨h1, h2, h3, h4, hk⟩
  · skip
    have c1 := hw.c1
    have c5 : (w.alloc (cmdRow 1 b s)).cell? ⟨0, 1, none⟩ = _ := (hA.cell (p := ⟨0, 1, none⟩) hw.lt).trans c1
    clear c1
    go_enter Tryd.func8, Tryd.ntmps8
    generalize hw0 : w.alloc (cmdRow _ b s) = w0 at *
    go_wp2_with (first
      | (go_at_call 12; ((with_reducible refine (H1.out _).mono ?_); rintro r9 w9 ⟨rfl, rfl⟩)))
    go_ret
    exact ⟨rfl, hA⟩
  · skip
    have c2 := hw.c2
    have c5 : (w.alloc (cmdRow 2 b s)).cell? ⟨0, 2, none⟩ = _ := (hA.cell (p := ⟨0, 2, none⟩) hw.lt).trans c2
    clear c2
    go_enter Tryd.func8, Tryd.ntmps8
    generalize hw0 : w.alloc (cmdRow _ b s) = w0 at *
    go_wp2_with (first
      | (go_at_call 12; ((with_reducible refine (H1.out _).mono ?_); rintro r9 w9 ⟨rfl, rfl⟩)))
    go_ret
    exact ⟨rfl, hA⟩
  · skip
    have c3 := hw.c3
    have c5 : (w.alloc (cmdRow 3 b s)).cell? ⟨0, 3, none⟩ = _ := (hA.cell (p := ⟨0, 3, none⟩) hw.lt).trans c3
    clear c3
    go_enter Tryd.func8, Tryd.ntmps8
    generalize hw0 : w.alloc (cmdRow _ b s) = w0 at *
    go_wp2_with (first
      | (go_at_call 12; ((with_reducible refine (H1.out _).mono ?_); rintro r9 w9 ⟨rfl, rfl⟩)))
    go_ret
    exact ⟨rfl, hA⟩
  · skip
    have c4 := hw.c4
    have c5 : (w.alloc (cmdRow 4 b s)).cell? ⟨0, 4, none⟩ = _ := (hA.cell (p := ⟨0, 4, none⟩) hw.lt).trans c4
    clear c4
    go_enter Tryd.func8, Tryd.ntmps8
    generalize hw0 : w.alloc (cmdRow _ b s) = w0 at *
    go_wp2_with (first
      | (go_at_call 12; ((with_reducible refine (H1.out _).mono ?_); rintro r9 w9 ⟨rfl, rfl⟩)))
    go_ret
    exact ⟨rfl, hA⟩
  · rw [kind_none hk]
    have e1 : (decide (1 ≤ k) && decide (k ≤ 4)) = false := by by_cases h1 : 1 ≤ k <;> simp [h1] <;> omega
    rw [e1] at H1
    clear hk e1
    go_enter Tryd.func8, Tryd.ntmps8
    generalize hw0 : w.alloc (cmdRow _ b s) = w0 at *
    go_wp2_with (first
      | (go_at_call 12; ((with_reducible refine (H1.out _).mono ?_); rintro r9 w9 ⟨rfl, rfl⟩)))
    go_ret
    exact ⟨rfl, hA⟩
end Go.Proofs.YtolpnlemaoabkaaDoor.Ents
