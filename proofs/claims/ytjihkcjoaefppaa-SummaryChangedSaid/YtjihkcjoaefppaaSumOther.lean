/- Lists of records of which one gets another block: their summaries differ. -/
import Derived.Test.YtjihkcjoaefppaaSumMore
import Derived.Test.YtjihkcjoaefppaaSumBurst
namespace Go.Proofs.Ytjihkcjoaefppaa.SumMath
open RecMath CrcMath

/-- records that may be before a summary -/
def GoodR (R : List Rec) : Prop := ∀ r ∈ R, checkE r = 0 ∧ (r.kind = 1 ∨ r.kind = 2)
theorem good_map {R : List Rec} (h : GoodR R) : ∀ s ∈ R.map encL, secE s = 0 := by
  intro s hs
  obtain ⟨r, hr, rfl⟩ := List.mem_map.1 hs
  exact sec_enc (h r hr).1 (h r hr).2
theorem good_set {R : List Rec} (h : GoodR R) (q : Nat) {r : Rec} (hr : checkE r = 0 ∧ (r.kind = 1 ∨ r.kind = 2)) : GoodR (R.set q r) := by
  intro x hx
  rcases List.mem_or_eq_of_mem_set hx with hx | rfl
  · exact h x hx
  · exact hr
theorem check_other {r : Rec} (h : checkE r = 0) (b : Int) (h0 : 0 ≤ b) (h1 : b < 4294967296) : checkE (other r b) = 0 := by
  have hc := check_ok h
  unfold checkE at h ⊢
  revert h
  simp only [other]
  repeat' split
  all_goals first | (intro h; omega) | (intro _; rfl) | (intro h; exact h) | skip
theorem other_makes {R : List Rec} (h : GoodR R) (q : Nat) (hq : q < R.length) (h64 : R.length ≤ 64) (b : Int) (h0 : 0 ≤ b) (h1 : b < 4294967296) (hne : R[q].block ≠ b) :
    makeE (R.map encL) = 0 ∧ makeE ((R.set q (other R[q] b)).map encL) = 0 ∧ (makeR (R.map encL)).payload ≠ (makeR ((R.set q (other R[q] b)).map encL)).payload ∧ fits (makeR (R.map encL)) ((R.set q (other R[q] b)).map encL) = false := by
  have hr := h R[q] (List.getElem_mem hq)
  have hr' : checkE (other R[q] b) = 0 ∧ ((other R[q] b).kind = 1 ∨ (other R[q] b).kind = 2) := ⟨check_other hr.1 b h0 h1, hr.2⟩
  have g2 := good_set h q hr'
  have e1 := make_good (good_map h) (by simp; omega) (by simpa using h64)
  have e2 := make_good (good_map g2) (by simp; omega) (by simpa using h64)
  have f1 : R.map encL = (R.take q).map encL ++ encL R[q] :: (R.drop (q + 1)).map encL := by
    conv => lhs; rw [← List.take_append_drop q R, List.drop_eq_getElem_cons hq]
    rw [List.map_append, List.map_cons]
  have f2 : (R.set q (other R[q] b)).map encL = (R.take q).map encL ++ encL (other R[q] b) :: (R.drop (q + 1)).map encL := by
    rw [List.set_eq_take_append_cons_drop, if_pos hq, List.map_append, List.map_cons]
  have hp : (makeR (R.map encL)).payload ≠ (makeR ((R.set q (other R[q] b)).map encL)).payload := by
    have l1 := (make_lens e1).2
    have l2 := (make_lens e2).2
    rw [f1] at l1 ⊢
    rw [f2] at l2 ⊢
    exact make_other _ _ _ b hr.1 hr'.1 hne l1.1 l1.2 l2.2
  refine ⟨e1, e2, hp, ?_⟩
  cases hf : fits (makeR (R.map encL)) ((R.set q (other R[q] b)).map encL) with
  | false => rfl
  | true =>
    exfalso
    unfold fits at hf
    simp only [Bool.and_eq_true, beq_iff_eq] at hf
    exact hp hf.2.2.2.2.2.symm
end Go.Proofs.Ytjihkcjoaefppaa.SumMath
