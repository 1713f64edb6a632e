
/- Locks in memory; the walks of the document's Valid, Free, set, Take, Give of locks. -/
import Derived.Test.YtoclcefnecghfaaLckMath
import Derived.Test.YtoclcefnecghfaaCntClear
namespace Go.Proofs.Ytoclcefnecghfaa.Ents
open Go.RowKit Plan EntMath CntMath LckMath
abbrev lckV (a : Option Addr) (n c : Nat) : Value := .agg #[.slice a n c]
abbrev lckRow (a : Option Addr) (n c : Nat) : Obj := .cells #[.slice a n c] 24
theorem lck_info : (Try.prog.info? 24).map (·.size) = some 1 := by kernel_rfl
theorem one_row {w : World} {g : Nat} {a : Value} {t : TypeId} {fr : Nat × Nat} (h : w.heap[g]? = some (.cells #[a] t fr)) : w.cell? ⟨g, 0, none⟩ = some a := cell_of_row _ _ 0 _ _ _ h
set_option maxHeartbeats 4000000 in
set_option maxRecDepth 20000 in
theorem refLValid_any (F : Nat → Prop) (O : List Int) (a : Option Addr) (n c : Nat) (w : World) (hl : IList w F a n c O) :
    Calls Try.prog 17 #[lckV a n c] w fun r w' => r = .returned (.bool (validK O)) ∧ Below w.heap.size w w' := by
  have hlen := hl.length
  have hA := (Below.refl w.heap.size w).alloc (Nat.le_refl _) (lckRow a n c)
  have hr0 := heap_alloc_new w (lckRow a n c)
  have H1 := Lib.hid (fun W (h : Below w.heap.size w W) i (hi : i < n) => (hl.same h).at' i hi)
  have hbd := fun j z h => @k_bad O j z h
  have hall := @k_all O
  rw [hlen] at hall
  generalize validK O = R at *
  have HB := Lib.hid hbd
  have HALL := Lib.hid hall
  clear hbd hall
  have hcp := hl.cap
  unfold maxLen at hcp
  clear hl
  go_enter Try.func17, Try.ntmps17
  have c0 := one_row hr0
  generalize hw0 : w.alloc (lckRow a n c) = w0 at *
  go_wp2_with fail
  go_loopw [3] (fun x wr => ∃ j : Nat, x = .int .i64 (j : Int) ∧ j ≤ n ∧ RowKit.Hid (∀ i : Nat, i < j → ∀ z, O[i]? = some z → -1 ≤ z) ∧ wr.heap[w.heap.size]? = some (lckRow a n c) ∧ Below w.heap.size w wr) (fun x _ => n - (intOf x).toNat)
  case atStart => exact ⟨0, rfl, by omega, Lib.hid (fun i h => absurd h (Nat.not_lt_zero _)), hr0, hA⟩
  case round =>
    clear c0 hr0 hA
    obtain ⟨j, rfl, hj, hbf, hr, hb⟩ := hrel
    have c0 := one_row hr
    by_cases hlt : j < n
    · obtain ⟨x, z, rfl, hz, hc⟩ := H1.out wr hb j hlt
      have hjI : (j : Int) < (n : Int) := by omega
      have N1 := Lib.hid (HB.out j z hz)
      have NX := Lib.hid (fun (k1 : -1 ≤ z) (i : Nat) (hi : i < j + 1) => (show ∀ z, O[i]? = some z → -1 ≤ z from by
        rcases Nat.lt_or_ge i j with h1 | h1
        · exact hbf.out i h1
        · obtain rfl : i = j := by omega
          intro q hq
          rw [hz] at hq
          obtain rfl := Option.some.inj hq
          exact k1))
      clear hz
      by_cases q1 : z < -1
      · have p1 : decide (z < -1) = true := by simpa using q1
        have hR := Lib.hid (N1.out (by omega))
        go_wp2_with fail
        go_ret
        exact ⟨by rw [hR.out]; rfl, hb⟩
      · have p1 : decide (z < -1) = false := by simp; omega
        have HN := Lib.hid (NX.out (by omega))
        go_wp2_with fail
        go_roundw
        case rel => exact ⟨j + 1, by go_num, by omega, HN, hr, hb⟩
        case measure => simp [intOf]; omega
    · obtain rfl : j = n := by omega
      have hR := Lib.hid (HALL.out (fun i hi => hbf.out i hi))
      rcases (show j < 1 ∨ (1 ≤ j ∧ j ≤ 8) ∨ 8 < j by omega) with h1 | ⟨h1, h2⟩ | h1
      · have p1 : decide ((1 : Int) ≤ (j : Int)) = false := by simp; omega
        have p2 : decide (1 ≤ j) = false := by simp; omega
        rw [p2, Bool.false_and] at hR
        go_wp2_with fail
        go_ret
        exact ⟨by rw [hR.out]; rfl, hb⟩
      · have p1 : decide ((1 : Int) ≤ (j : Int)) = true := by simp; omega
        have p2 : decide (1 ≤ j) = true := by simp; omega
        have p3 : decide ((j : Int) ≤ 8) = true := by simp; omega
        have p4 : decide (j ≤ 8) = true := by simp; omega
        rw [p2, p4, Bool.and_self] at hR
        go_wp2_with fail
        go_ret
        exact ⟨by rw [hR.out]; rfl, hb⟩
      · have p1 : decide ((1 : Int) ≤ (j : Int)) = true := by simp; omega
        have p2 : decide (1 ≤ j) = true := by simp; omega
        have p3 : decide ((j : Int) ≤ 8) = false := by simp; omega
        have p4 : decide (j ≤ 8) = false := by simp; omega
        rw [p2, p4, Bool.and_false] at hR
        go_wp2_with fail
        go_ret
        exact ⟨by rw [hR.out]; rfl, hb⟩
end Go.Proofs.Ytoclcefnecghfaa.Ents
