
/- The walks of the layout's own small functions: inRange, planned; and the document's 'of'. -/
import Derived.Test.YtolpnlemaoabkaaDoorBaseMod
import Derived.Test.YtolpnlemaoabkaaDoorBasePlan
import Derived.Test.YtolpnlemaoabkaaDoorLayMath
namespace Go.Proofs.YtolpnlemaoabkaaDoor
open Go.RowKit LayMath
/-- a configuration as a value -/
def confV (z s b q d h : Int) : Value := .agg #[.int .i64 z, .int .i64 s, .int .i64 b, .int .i64 q, .int .i64 d, .int .i64 h]
/-- a layout as a value -/
def layV (z s b q : Int) : Value := .agg #[.int .i64 (slotN s b), .int .i64 (2 * slotN s b), .int .i64 (dataN z s b), .int .i64 (capN z s b q)]
theorem lay_b {a b : Bool} (h : a = b) : Ending.returned (.bool a) = .returned (.bool b) := by rw [h]
theorem inR_last {z s b q d h : Int} (hn : 3 ≤ s ∧ s ≤ 64 ∧ 1 ≤ z ∧ z ≤ 32 ∧ 1 ≤ b ∧ b ≤ 128 ∧ 1 ≤ q ∧ q ≤ 4 ∧ 1 ≤ d ∧ d ≤ 8 ∧ 1 ≤ h) : decide (h ≤ 8) = inR z s b q d h := by
  cases hE : inR z s b q d h
  · rw [decide_eq_false_iff_not]
    intro h8
    rw [inR_iff.2 (by omega)] at hE
    cases hE
  · exact decide_eq_true (inR_iff.1 hE).2.2.2.2.2.2.2.2.2.2.2
theorem conf_info : (Tryd.prog.info? 23).map (·.size) = some 6 := by kernel_rfl
theorem ret_lay {z s b q : Int} (s1 : 3 ≤ s) (s2 : s ≤ 64) (b1 : 1 ≤ b) (b2 : b ≤ 128) (z1 : 1 ≤ z) (z2 : z ≤ 32) (q1 : 1 ≤ q) (q2 : q ≤ 4) :
    Ending.returned (.agg #[.int .i64 ((b + 2 + s - 1) / s), .int .i64 (wrap64 (2 * ((b + 2 + s - 1) / s))), .int .i64 (wrap64 (z - wrap64 (2 * ((b + 2 + s - 1) / s)))),
      .int .i64 (wrap64 (wrap64 (wrap64 (wrap64 (wrap64 (z - wrap64 (2 * ((b + 2 + s - 1) / s))) - 3) * (s - 1)) - q) - 1))]) = .returned (layV z s b q) := by
  obtain ⟨l1, l2⟩ := slot_bounds s1 s2 b1 b2
  obtain ⟨⟨c1, c2⟩, c3, c4⟩ := cap_bounds s1 s2 b1 b2 z1 z2
  unfold layV capN
  unfold dataN at *
  rw [show (b + 2 + s - 1) / s = slotN s b from rfl]
  generalize slotN s b = k at *
  have e1 : wrap64 (2 * k) = 2 * k := by unfold wrap64; omega
  rw [e1]
  have e2 : wrap64 (z - 2 * k) = z - 2 * k := by unfold wrap64; omega
  rw [e2]
  have e3 : wrap64 (z - 2 * k - 3) = z - 2 * k - 3 := by unfold wrap64; omega
  rw [e3]
  generalize (z - 2 * k - 3) * (s - 1) = p at *
  have e4 : wrap64 p = p := by unfold wrap64; omega
  rw [e4]
  have e5 : wrap64 (p - q) = p - q := by unfold wrap64; omega
  rw [e5]
  have e6 : wrap64 (p - q - 1) = p - q - 1 := by unfold wrap64; omega
  rw [e6]
end Go.Proofs.YtolpnlemaoabkaaDoor
