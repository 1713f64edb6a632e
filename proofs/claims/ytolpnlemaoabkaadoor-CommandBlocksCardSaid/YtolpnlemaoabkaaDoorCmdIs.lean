
/- The walks of the document's Check, Kind and Zero of commands. -/
import Derived.Test.YtolpnlemaoabkaaDoorProg
import Derived.Test.YtolpnlemaoabkaaDoorCmdMath
import Derived.Test.YtolpnlemaoabkaaDoorLayOf
import Derived.Laws.IdiomStrings
import Derived.Deep.OwnRows
import Derived.Below
import Derived.Lib.Join
namespace Go.Proofs.YtolpnlemaoabkaaDoor.Ents
open Go.RowKit Plan LayMath CmdMath
theorem info_byteC : (Tryd.prog.info? 5).map (fun i => (i.zero, i.size, i.bytes)) = some (some (.int .u8 0), 1, 1) := by kernel_rfl
abbrev cmdV (k b : Int) (s : ByteArray) : Value := .agg #[.int .i64 k, .int .i64 b, .string s]
abbrev cmdRow (k b : Int) (s : ByteArray) : Obj := .cells #[.int .i64 k, .int .i64 b, .string s] 25
theorem cmd_info : (Tryd.prog.info? 25).map (·.size) = some 3 := by kernel_rfl
theorem c_i {a b : Int} (h : a = b) : Ending.returned (.int .i64 a) = .returned (.int .i64 b) := by rw [h]
theorem c_s {a b : ByteArray} (h : a = b) : Ending.returned (.string a) = .returned (.string b) := by rw [h]
theorem cmd_cells {w : World} {g : Nat} {a b c : Value} {t : TypeId} {fr : Nat × Nat} (h : w.heap[g]? = some (.cells #[a, b, c] t fr)) : w.cell? ⟨g, 0, none⟩ = some a ∧ w.cell? ⟨g, 1, none⟩ = some b ∧ w.cell? ⟨g, 2, none⟩ = some c := ⟨cell_of_row _ _ 0 _ _ _ h, cell_of_row _ _ 1 _ _ _ h, cell_of_row _ _ 2 _ _ _ h⟩
theorem kind_cases (k : Int) : k = 1 ∨ k = 2 ∨ k = 3 ∨ k = 4 ∨ ((k == 1) = false ∧ (k == 2) = false ∧ (k == 3) = false ∧ (k == 4) = false ∧ (k < 1 ∨ 4 < k)) := by
  by_cases h1 : k = 1
  · exact .inl h1
  · by_cases h2 : k = 2
    · exact .inr (.inl h2)
    · by_cases h3 : k = 3
      · exact .inr (.inr (.inl h3))
      · by_cases h4 : k = 4
        · exact .inr (.inr (.inr (.inl h4)))
        · exact .inr (.inr (.inr (.inr ⟨by simpa using h1, by simpa using h2, by simpa using h3, by simpa using h4, by omega⟩)))
theorem kind_none {k : Int} (h : k < 1 ∨ 4 < k) : kindC k = ⟨#[]⟩ := by
  unfold kindC
  rw [if_neg (by omega), if_neg (by omega), if_neg (by omega), if_neg (by omega)]
set_option maxHeartbeats 4000000 in
set_option maxRecDepth 20000 in
theorem refKind_any (k b : Int) (s : ByteArray) (w : World) :
    Calls Tryd.prog 9 #[cmdV k b s] w fun r w' => r = .returned (.string (kindC k)) ∧ Below w.heap.size w w' := by
  have hA := (Below.refl w.heap.size w).alloc (Nat.le_refl _) (cmdRow k b s)
  obtain ⟨c0, c1, c2⟩ := cmd_cells (heap_alloc_new w (cmdRow k b s))
  rcases kind_cases k with rfl | rfl | rfl | rfl | ⟨h1, h2, h3, h4, hk⟩
  · skip
    go_enter Tryd.func9, Tryd.ntmps9
    generalize hw0 : w.alloc (cmdRow _ b s) = w0 at *
    go_wp2_with fail
    go_ret
    exact ⟨rfl, hA⟩
  · skip
    go_enter Tryd.func9, Tryd.ntmps9
    generalize hw0 : w.alloc (cmdRow _ b s) = w0 at *
    go_wp2_with fail
    go_ret
    exact ⟨rfl, hA⟩
  · skip
    go_enter Tryd.func9, Tryd.ntmps9
    generalize hw0 : w.alloc (cmdRow _ b s) = w0 at *
    go_wp2_with fail
    go_ret
    exact ⟨rfl, hA⟩
  · skip
    go_enter Tryd.func9, Tryd.ntmps9
    generalize hw0 : w.alloc (cmdRow _ b s) = w0 at *
    go_wp2_with fail
    go_ret
    exact ⟨rfl, hA⟩
  · rw [kind_none hk]
    clear hk
    go_enter Tryd.func9, Tryd.ntmps9
    generalize hw0 : w.alloc (cmdRow _ b s) = w0 at *
    go_wp2_with fail
    go_ret
    exact ⟨rfl, hA⟩
theorem check_out {nb k b : Int} {n : Nat} (h : k < 1 ∨ 4 < k) : checkC nb k b n = 3 := by
  unfold checkC
  rw [if_pos h]
theorem check_range {nb k b : Int} {n : Nat} (h : ¬ (k < 1 ∨ 4 < k)) (h2 : (k = 4 ∧ b ≠ 0) ∨ (k ≠ 4 ∧ (b < 0 ∨ nb ≤ b))) : checkC nb k b n = 1 := by
  unfold checkC
  rw [if_neg h, if_pos h2]
theorem check_size {nb k b : Int} {n : Nat} (h : ¬ (k < 1 ∨ 4 < k)) (h2 : ¬ ((k = 4 ∧ b ≠ 0) ∨ (k ≠ 4 ∧ (b < 0 ∨ nb ≤ b)))) (h3 : (k = 2 ∧ n ≠ 16) ∨ (k ≠ 2 ∧ n ≠ 0)) : checkC nb k b n = 2 := by
  unfold checkC
  rw [if_neg h, if_neg h2, if_pos h3]
theorem check_fine {nb k b : Int} {n : Nat} (h : ¬ (k < 1 ∨ 4 < k)) (h2 : ¬ ((k = 4 ∧ b ≠ 0) ∨ (k ≠ 4 ∧ (b < 0 ∨ nb ≤ b)))) (h3 : ¬ ((k = 2 ∧ n ≠ 16) ∨ (k ≠ 2 ∧ n ≠ 0))) : checkC nb k b n = 0 := by
  unfold checkC
  rw [if_neg h, if_neg h2, if_neg h3]
theorem bytes_none {s : ByteArray} (h : s.size = 0) : s = ⟨#[]⟩ := by
  obtain ⟨d⟩ := s
  have h' : d.size = 0 := h
  rw [Array.size_eq_zero_iff.1 h']
theorem bytes_some {s : ByteArray} (h : s.size ≠ 0) : s.toList.isEmpty = false := by
  rw [Lib.toList_data]
  obtain ⟨d⟩ := s
  have h' : d.size ≠ 0 := h
  cases hd : d.toList with
  | nil => exact absurd (by rw [← Array.length_toList, hd]; rfl) h'
  | cons x r => rfl
set_option maxHeartbeats 8000000 in
set_option maxRecDepth 20000 in
theorem refCheck_any (cz cs cb cq cd ch k b : Int) (s : ByteArray) (w : World) (hs : s.size ≤ maxLen) :
    Calls Tryd.prog 7 #[confV cz cs cb cq cd ch, cmdV k b s] w fun r w' => r = .returned (.int .i64 (checkC cb k b s.size)) ∧ Below w.heap.size w w' := by
  unfold confV
  have hA := ((Below.refl w.heap.size w).alloc (Nat.le_refl _) (confRow cz cs cb cq cd ch)).alloc (by simp) (cmdRow k b s)
  have hcf : ((w.alloc (confRow cz cs cb cq cd ch)).alloc (cmdRow k b s)).cell? ⟨w.heap.size, 2, none⟩ = some (.int .i64 cb) := cell_of_row _ _ 2 _ _ _ ((Below.heap_alloc _ _ _ (by simp)).trans (heap_alloc_new w (confRow cz cs cb cq cd ch)))
  obtain ⟨c0, c1, c2⟩ := cmd_cells (w := (w.alloc (confRow cz cs cb cq cd ch)).alloc (cmdRow k b s)) (g := w.heap.size + 1) (by have := heap_alloc_new (w.alloc (confRow cz cs cb cq cd ch)) (cmdRow k b s); rwa [World.size_alloc] at this)
  unfold maxLen at hs
  rcases kind_cases k with rfl | rfl | rfl | rfl | ⟨h1, h2, h3, h4, hk⟩
  · by_cases h1 : b < 0
    · rw [check_range (by omega) (by omega)]
      go_enter Tryd.func7, Tryd.ntmps7
      generalize hw0 : (w.alloc (confRow cz cs cb cq cd ch)).alloc (cmdRow _ b s) = w0 at *
      go_wp2_with fail
      go_ret
      exact ⟨rfl, hA⟩
    · by_cases h2 : cb ≤ b
      · rw [check_range (by omega) (by omega)]
        go_enter Tryd.func7, Tryd.ntmps7
        generalize hw0 : (w.alloc (confRow cz cs cb cq cd ch)).alloc (cmdRow _ b s) = w0 at *
        go_wp2_with fail
        go_ret
        exact ⟨rfl, hA⟩
      · skip
        by_cases h5 : s.size = 0
        · rw [check_fine (by omega) (by omega) (by omega)]
          obtain rfl := bytes_none h5
          clear h5
          go_enter Tryd.func7, Tryd.ntmps7
          generalize hw0 : (w.alloc (confRow cz cs cb cq cd ch)).alloc (cmdRow _ _ _) = w0 at *
          go_wp2_with fail
          go_ret
          exact ⟨rfl, hA⟩
        · rw [check_size (by omega) (by omega) (by omega)]
          have d5 := bytes_some h5
          clear h5
          go_enter Tryd.func7, Tryd.ntmps7
          generalize hw0 : (w.alloc (confRow cz cs cb cq cd ch)).alloc (cmdRow _ _ s) = w0 at *
          go_wp2_with fail
          go_ret
          exact ⟨rfl, hA⟩
  · by_cases h1 : b < 0
    · rw [check_range (by omega) (by omega)]
      go_enter Tryd.func7, Tryd.ntmps7
      generalize hw0 : (w.alloc (confRow cz cs cb cq cd ch)).alloc (cmdRow _ b s) = w0 at *
      go_wp2_with fail
      go_ret
      exact ⟨rfl, hA⟩
    · by_cases h2 : cb ≤ b
      · rw [check_range (by omega) (by omega)]
        go_enter Tryd.func7, Tryd.ntmps7
        generalize hw0 : (w.alloc (confRow cz cs cb cq cd ch)).alloc (cmdRow _ b s) = w0 at *
        go_wp2_with fail
        go_ret
        exact ⟨rfl, hA⟩
      · skip
        by_cases h5 : s.size = 16
        · rw [check_fine (by omega) (by omega) (by omega)]
          have d5 : ((s.size : Int) == 16) = true := by simp [h5]
          have d6 : ((s.size : Int) != 16) = false := by simp [h5]
          clear h5
          go_enter Tryd.func7, Tryd.ntmps7
          generalize hw0 : (w.alloc (confRow cz cs cb cq cd ch)).alloc (cmdRow _ b s) = w0 at *
          go_wp2_with fail
          go_ret
          exact ⟨rfl, hA⟩
        · rw [check_size (by omega) (by omega) (by omega)]
          have d5 : ((s.size : Int) == 16) = false := by simp; omega
          have d6 : ((s.size : Int) != 16) = true := by simp; omega
          clear h5
          go_enter Tryd.func7, Tryd.ntmps7
          generalize hw0 : (w.alloc (confRow cz cs cb cq cd ch)).alloc (cmdRow _ b s) = w0 at *
          go_wp2_with fail
          go_ret
          exact ⟨rfl, hA⟩
  · by_cases h1 : b < 0
    · rw [check_range (by omega) (by omega)]
      go_enter Tryd.func7, Tryd.ntmps7
      generalize hw0 : (w.alloc (confRow cz cs cb cq cd ch)).alloc (cmdRow _ b s) = w0 at *
      go_wp2_with fail
      go_ret
      exact ⟨rfl, hA⟩
    · by_cases h2 : cb ≤ b
      · rw [check_range (by omega) (by omega)]
        go_enter Tryd.func7, Tryd.ntmps7
        generalize hw0 : (w.alloc (confRow cz cs cb cq cd ch)).alloc (cmdRow _ b s) = w0 at *
        go_wp2_with fail
        go_ret
        exact ⟨rfl, hA⟩
      · skip
        by_cases h5 : s.size = 0
        · rw [check_fine (by omega) (by omega) (by omega)]
          obtain rfl := bytes_none h5
          clear h5
          go_enter Tryd.func7, Tryd.ntmps7
          generalize hw0 : (w.alloc (confRow cz cs cb cq cd ch)).alloc (cmdRow _ _ _) = w0 at *
          go_wp2_with fail
          go_ret
          exact ⟨rfl, hA⟩
        · rw [check_size (by omega) (by omega) (by omega)]
          have d5 := bytes_some h5
          clear h5
          go_enter Tryd.func7, Tryd.ntmps7
          generalize hw0 : (w.alloc (confRow cz cs cb cq cd ch)).alloc (cmdRow _ _ s) = w0 at *
          go_wp2_with fail
          go_ret
          exact ⟨rfl, hA⟩
  · by_cases h1 : b = 0
    · subst h1
      by_cases h5 : s.size = 0
      · rw [check_fine (by omega) (by omega) (by omega)]
        obtain rfl := bytes_none h5
        clear h5
        go_enter Tryd.func7, Tryd.ntmps7
        generalize hw0 : (w.alloc (confRow cz cs cb cq cd ch)).alloc (cmdRow _ _ _) = w0 at *
        go_wp2_with fail
        go_ret
        exact ⟨rfl, hA⟩
      · rw [check_size (by omega) (by omega) (by omega)]
        have d5 := bytes_some h5
        clear h5
        go_enter Tryd.func7, Tryd.ntmps7
        generalize hw0 : (w.alloc (confRow cz cs cb cq cd ch)).alloc (cmdRow _ _ s) = w0 at *
        go_wp2_with fail
        go_ret
        exact ⟨rfl, hA⟩
    · rw [check_range (by omega) (by omega)]
      have d1 : (b == 0) = false := by simpa using h1
      have d2 : (b != 0) = true := by simpa using h1
      clear h1
      go_enter Tryd.func7, Tryd.ntmps7
      generalize hw0 : (w.alloc (confRow cz cs cb cq cd ch)).alloc (cmdRow _ b s) = w0 at *
      go_wp2_with fail
      go_ret
      exact ⟨rfl, hA⟩
  · rw [check_out hk]
    rcases hk with hk | hk
    · skip
      go_enter Tryd.func7, Tryd.ntmps7
      generalize hw0 : (w.alloc (confRow cz cs cb cq cd ch)).alloc (cmdRow _ b s) = w0 at *
      go_wp2_with fail
      go_ret
      exact ⟨rfl, hA⟩
    · have hk2 : ¬ k < 1 := by omega
      go_enter Tryd.func7, Tryd.ntmps7
      generalize hw0 : (w.alloc (confRow cz cs cb cq cd ch)).alloc (cmdRow _ b s) = w0 at *
      go_wp2_with fail
      go_ret
      exact ⟨rfl, hA⟩
theorem refZero_any (w : World) :
    Calls Tryd.prog 11 #[] w fun r w' => r = .returned (.string zeroC) ∧ Below w.heap.size w w' := by
  have hmk : (Instr.makeSlice 37 (.int .i64 16) (.int .i64 16)).run Tryd.prog w = .ok (.slice (some ⟨w.heap.size, 0, none⟩) 16 16) (w.alloc (.cells (madeCells #[.int .u8 0] 16) 5)) :=
    run_make_row' (P := Tryd.prog) 37 5 (.int .u8 0) 1 Tryd.underlying37 info_byteC rfl .i64 .i64 16 (by omega) (by omega) w
  have hcv : (convert 37 9 (.slice (some ⟨w.heap.size, 0, none⟩) 16 16)).run Tryd.prog (w.alloc (.cells (madeCells #[.int .u8 0] 16) 5)) = .ok (.string zeroC) (w.alloc (.cells (madeCells #[.int .u8 0] 16) 5)) := by
    have h1 := run_convert_bytes_back (P := Tryd.prog) (w.alloc (.cells (madeCells #[.int .u8 0] 16) 5)) 37 9 5 ⟨w.heap.size, 0, none⟩ 16 (List.replicate 16 0) Tryd.underlying37 Tryd.underlying5 Tryd.underlying9 (fun j hj => by
      have hj' : j < 16 := by simpa using hj
      have e : (⟨w.heap.size, 0, none⟩ : Addr).add j = ⟨w.heap.size, j, none⟩ := by unfold Addr.add; split <;> simp_all
      rw [e, (World.rowIs_made w (.int .u8 0) 16 5).cell hj', List.getElem_replicate]
      rfl)
    rwa [List.length_replicate] at h1
  have hA := (Below.refl w.heap.size w).alloc (Nat.le_refl _) (.cells (madeCells #[.int .u8 0] 16) 5)
  go_enter Tryd.func11, Tryd.ntmps11
  go_wp2_with fail
  go_ret
  exact ⟨rfl, hA⟩
end Go.Proofs.YtolpnlemaoabkaaDoor.Ents
