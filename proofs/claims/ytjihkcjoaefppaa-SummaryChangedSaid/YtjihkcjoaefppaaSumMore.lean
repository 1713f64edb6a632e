/- Summaries as plain lists: which lists fit none, nothing of the program. -/
import Derived.Test.YtjihkcjoaefppaaSumMath
namespace Go.Proofs.Ytjihkcjoaefppaa.SumMath
open RecMath CrcMath

theorem errL_good : ∀ {l : List (List UInt8)}, (∀ s ∈ l, secE s = 0) → errL l = 0
  | [], _ => rfl
  | s :: r, h => by
    unfold errL
    rw [if_pos (h s (by simp))]
    exact errL_good fun x hx => h x (by simp [hx])
theorem good_errL : ∀ {l : List (List UInt8)}, errL l = 0 → ∀ s ∈ l, secE s = 0
  | [], _, s, hs => by cases hs
  | a :: r, h, s, hs => by
    unfold errL at h
    split at h
    · rename_i h1
      rcases List.mem_cons.1 hs with rfl | hs
      · exact h1
      · exact good_errL h s hs
    · rename_i h1; exact absurd h h1
theorem make_lens {l : List (List UInt8)} (h : makeE l = 0) : 0 < l.length ∧ l.length ≤ 64 ∧ errL l = 0 := by
  unfold makeE at h
  split at h
  · omega
  · exact ⟨by omega, by omega, h⟩
theorem make_good {l : List (List UInt8)} (hg : ∀ s ∈ l, secE s = 0) (h0 : 0 < l.length) (h64 : l.length ≤ 64) : makeE l = 0 := by
  unfold makeE
  rw [if_neg (by omega)]
  exact errL_good hg
theorem make_block {l : List (List UInt8)} (h : makeE l = 0) : (makeR l).block = l.length := by
  have := make_lens h
  rw [(make_ok this.1 this.2.1 this.2.2).2]
/-- no list of another length fits -/
theorem fits_len {l m : List (List UInt8)} (h : makeE l = 0) (hne : l.length ≠ m.length) : fits (makeR l) m = false := by
  cases hf : fits (makeR l) m with
  | false => rfl
  | true =>
    exfalso
    unfold fits at hf
    simp only [Bool.and_eq_true, beq_iff_eq] at hf
    have h1 := make_block hf.1
    have h2 := make_block h
    have h3 := hf.2.2.1
    omega
theorem fits_bad {r : Rec} {l : List (List UInt8)} (s : List UInt8) (hs : s ∈ l) (hb : secE s ≠ 0) : fits r l = false := by
  cases hf : fits r l with
  | false => rfl
  | true =>
    exfalso
    unfold fits at hf
    simp only [Bool.and_eq_true, beq_iff_eq] at hf
    exact hb (good_errL (make_lens hf.1).2.2 s hs)
theorem sec_bad {s : List UInt8} (h : decE s ≠ 0) : secE s ≠ 0 := by
  unfold secE
  rw [if_neg h]
  exact h
/-- the sector of a record of data or of a trim is good -/
theorem sec_enc {r : Rec} (h : checkE r = 0) (hk : r.kind = 1 ∨ r.kind = 2) : secE (encL r) = 0 := by
  have hd := dec_enc h
  unfold secE
  rw [if_pos hd.1, hd.2, if_pos hk]
end Go.Proofs.Ytjihkcjoaefppaa.SumMath
