
/- The walks of the program's isKind and dataBytes of commands. -/
import Derived.Test.YtolpnlemaoabkaaDoorCmdIs
namespace Go.Proofs.YtolpnlemaoabkaaDoor.Ents
open Go.RowKit Plan LayMath CmdMath
def mayB (cb k b : Int) : Bool := if k = 4 then decide (b = 0) else decide (0 ≤ b) && decide (b < cb)
def dataB (k : Int) : Int := if k = 2 then 16 else 0
theorem mayB_no {cb k b : Int} (h : mayB cb k b = false) : (k = 4 ∧ b ≠ 0) ∨ (k ≠ 4 ∧ (b < 0 ∨ cb ≤ b)) := by
  unfold mayB at h
  split at h
  · exact .inl ⟨by assumption, by simpa using h⟩
  · refine .inr ⟨by assumption, ?_⟩
    by_cases h1 : 0 ≤ b <;> simp [h1] at h <;> omega
theorem mayB_yes {cb k b : Int} (h : mayB cb k b = true) : ¬ ((k = 4 ∧ b ≠ 0) ∨ (k ≠ 4 ∧ (b < 0 ∨ cb ≤ b))) := by
  unfold mayB at h
  split at h
  · have : b = 0 := by simpa using h
    omega
  · simp only [Bool.and_eq_true, decide_eq_true_eq] at h
    omega
theorem isKindC_any (k : Int) (w : World) : Calls Tryd.prog 12 #[.int .i64 k] w fun r w' => r = .returned (.bool (decide (1 ≤ k) && decide (k ≤ 4))) ∧ w = w' := by
  by_cases h1 : 1 ≤ k
  · by_cases h2 : k ≤ 4
    · go_enter Tryd.func12, Tryd.ntmps12
      go_wp2
      all_goals go_ret
      all_goals exact ⟨by simp [h1, h2], rfl⟩
    · go_enter Tryd.func12, Tryd.ntmps12
      go_wp2
      all_goals go_ret
      all_goals exact ⟨by simp [h2], rfl⟩
  · go_enter Tryd.func12, Tryd.ntmps12
    go_wp2
    all_goals go_ret
    all_goals exact ⟨by simp; omega, rfl⟩
theorem dataC_any (k : Int) (w : World) : Calls Tryd.prog 14 #[.int .i64 k] w fun r w' => r = .returned (.int .i64 (dataB k)) ∧ w = w' := by
  unfold dataB
  by_cases h1 : k = 2
  · subst h1
    rw [if_pos rfl]
    go_enter Tryd.func14, Tryd.ntmps14
    go_wp2
    all_goals go_ret
    all_goals exact ⟨rfl, rfl⟩
  · rw [if_neg h1]
    have d1 : (k == 2) = false := by simpa using h1
    clear h1
    go_enter Tryd.func14, Tryd.ntmps14
    go_wp2
    all_goals go_ret
    all_goals exact ⟨rfl, rfl⟩
end Go.Proofs.YtolpnlemaoabkaaDoor.Ents
