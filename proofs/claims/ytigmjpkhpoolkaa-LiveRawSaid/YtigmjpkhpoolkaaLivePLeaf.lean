
/- The walks of the program's possible, isZone, countable, Valid, ifValid of counters, and of the library's Clone at numbers. -/
import Derived.Test.YtigmjpkhpoolkaaCntAgree
import Derived.Lib.SliceRun
namespace Go.Proofs.Ytigmjpkhpoolkaa.Ents
open Go.RowKit Plan EntMath CntMath
theorem lpossible_any (s : Int) (w : World) : Calls Try.prog 29 #[.int .i64 s] w fun r w' => r = .returned (.bool (decide (1 ≤ s ∧ s ≤ 32))) ∧ w = w' := by
  by_cases h1 : 1 ≤ s
  · by_cases h2 : s ≤ 32
    · rw [decide_eq_true (show 1 ≤ s ∧ s ≤ 32 from ⟨h1, h2⟩)]
      go_enter Try.func29, Try.ntmps29
      go_wp2
      go_ret
      exact ⟨by first | rfl | (simp; omega), rfl⟩
    · rw [decide_eq_false (show ¬ (1 ≤ s ∧ s ≤ 32) from fun h => h2 h.2)]
      go_enter Try.func29, Try.ntmps29
      go_wp2
      go_ret
      exact ⟨by first | rfl | (simp; omega), rfl⟩
  · rw [decide_eq_false (show ¬ (1 ≤ s ∧ s ≤ 32) from fun h => h1 h.1)]
    go_enter Try.func29, Try.ntmps29
    go_wp2
    go_ret
    exact ⟨by first | rfl | (simp; omega), rfl⟩
set_option maxHeartbeats 1000000 in
theorem isZone_any (z : Int) (a a2 : Option Addr) (n c n2 c2 : Nat) (w : World) :
    Calls Try.prog 32 #[cntV a n c a2 n2 c2, .int .i64 z] w fun r w' => r = .returned (.bool (decide (0 ≤ z ∧ z < (n : Int)))) ∧ Below w.heap.size w w' := by
  have hA := (Below.refl w.heap.size w).alloc (Nat.le_refl _) (cntRow a n c a2 n2 c2)
  by_cases h1 : 0 ≤ z
  · by_cases h2 : z < (n : Int)
    · rw [decide_eq_true (show 0 ≤ z ∧ z < (n : Int) from ⟨h1, h2⟩)]
      go_enter Try.func32, Try.ntmps32
      go_wp2
      go_ret
      exact ⟨by first | rfl | (simp; omega), hA⟩
    · rw [decide_eq_false (show ¬ (0 ≤ z ∧ z < (n : Int)) from fun h => h2 h.2)]
      go_enter Try.func32, Try.ntmps32
      go_wp2
      go_ret
      exact ⟨by first | rfl | (simp; omega), hA⟩
  · rw [decide_eq_false (show ¬ (0 ≤ z ∧ z < (n : Int)) from fun h => h1 h.1)]
    go_enter Try.func32, Try.ntmps32
    go_wp2
    go_ret
    exact ⟨by first | rfl | (simp; omega), hA⟩
theorem countable_bad {Z : List Int} {j : Nat} {z : Int} (he : Z[j]? = some z) (h : z < 0 ∨ 1099511627776 < z) : Z.all okN = false := by
  cases ho : Z.all okN
  · rfl
  · have := ok_n.1 (List.all_eq_true.1 ho z (List.mem_of_getElem? he)); omega
theorem countable_good {Z : List Int} (h : ∀ (j : Nat) (z : Int), Z[j]? = some z → 0 ≤ z ∧ z ≤ 1099511627776) : Z.all okN = true :=
  List.all_eq_true.2 fun z hz => by obtain ⟨j, hj⟩ := List.mem_iff_getElem?.1 hz; exact ok_n.2 (h j z hj)
set_option maxHeartbeats 2000000 in
set_option maxRecDepth 20000 in
theorem countable_any (F : Nat → Prop) (Z : List Int) (a : Option Addr) (n c : Nat) (w : World) (hl : IList w F a n c Z) :
    Calls Try.prog 41 #[.slice a n c] w fun r w' => r = .returned (.bool (Z.all okN)) ∧ Below w.heap.size w w' := by
  have hlen := hl.length
  have hcp := hl.cap
  unfold maxLen at hcp
  have HAT := Lib.hid (fun W (h : Below w.heap.size w W) i (hi : i < n) => (hl.same h).at' i hi)
  have hbad := fun j z (he : Z[j]? = some z) => @countable_bad Z j z he
  have hgood := @countable_good Z
  generalize Z.all okN = R at *
  have HBAD := Lib.hid hbad
  have HGOOD := Lib.hid hgood
  clear hbad hgood hl
  go_enter Try.func41, Try.ntmps41
  go_wp2_with fail
  go_loopw [7] (fun x wr => ∃ j : Nat, x = .int .i64 (j : Int) ∧ j ≤ n ∧ RowKit.Hid (∀ (t : Nat) (z : Int), t < j → Z[t]? = some z → 0 ≤ z ∧ z ≤ 1099511627776) ∧ Below w.heap.size w wr) (fun x _ => n - (intOf x).toNat)
  case atStart => exact ⟨0, rfl, by omega, Lib.hid (fun t z h => absurd h (Nat.not_lt_zero _)), Below.refl _ _⟩
  case round =>
    obtain ⟨j, rfl, hj, hbf, hb⟩ := hrel
    by_cases hlt : j < n
    · obtain ⟨x, z, rfl, hz, hcx⟩ := HAT.out wr hb j hlt
      have hjI : (j : Int) < (n : Int) := by omega
      have HN := Lib.hid (HBAD.out j z hz)
      have HNX := Lib.hid (fun (h0 : 0 ≤ z ∧ z ≤ 1099511627776) (t : Nat) (y : Int) (ht : t < j + 1) (h : Z[t]? = some y) => (show 0 ≤ y ∧ y ≤ 1099511627776 from by
        rcases Nat.lt_or_ge t j with h1 | h1
        · exact hbf.out t y h1 h
        · obtain rfl : t = j := by omega
          rw [hz] at h
          obtain rfl := Option.some.inj h
          exact h0))
      clear hz
      rcases (show (z < 0) ∨ (¬ z < 0 ∧ 1099511627776 < z) ∨ (¬ z < 0 ∧ ¬ 1099511627776 < z) by omega) with q1 | ⟨q1, q2⟩ | ⟨q1, q2⟩
      · have p1 : decide (z < 0) = true := by simpa using q1
        have hR := Lib.hid (HN.out (by omega))
        go_wp2_with fail
        go_ret
        exact ⟨by rw [hR.out]; rfl, hb⟩
      · have p1 : decide (z < 0) = false := by simp; omega
        have p2 : decide (1099511627776 < z) = true := by simp; omega
        have hR := Lib.hid (HN.out (by omega))
        go_wp2_with fail
        go_ret
        exact ⟨by rw [hR.out]; rfl, hb⟩
      · have p1 : decide (z < 0) = false := by simp; omega
        have p2 : decide (1099511627776 < z) = false := by simp; omega
        have HM := Lib.hid (HNX.out (by omega))
        go_wp2_with fail
        go_roundw
        case rel => exact ⟨j + 1, by go_num, by omega, HM, hb⟩
        case measure => simp [intOf]; omega
    · obtain rfl : j = n := by omega
      have hR := Lib.hid (HGOOD.out (fun i z hz => hbf.out i z (by have := (List.getElem?_eq_some_iff.1 hz).1; omega) hz))
      go_wp2_with fail
      go_ret
      exact ⟨by rw [hR.out]; rfl, hb⟩
set_option maxHeartbeats 4000000 in
set_option maxRecDepth 20000 in
theorem lvalid_any (F : Nat → Prop) (C : Cnt) (a a2 : Option Addr) (n c n2 c2 : Nat) (w : World) (hl : CList w F a n c a2 n2 c2 C) :
    Calls Try.prog 22 #[cntV a n c a2 n2 c2] w fun r w' => r = .returned (.bool (validC C)) ∧ Below w.heap.size w w' := by
  have hlen := hl.l.length
  have hlen2 := hl.p.length
  have hA := (Below.refl w.heap.size w).alloc (Nat.le_refl _) (cntRow a n c a2 n2 c2)
  have hr0 := heap_alloc_new w (cntRow a n c a2 n2 c2)
  have H1 := Lib.hid (fun W (h : Below w.heap.size w W) => countable_any _ C.live a n c W (hl.l.same h))
  have H2 := Lib.hid (fun W (h : Below w.heap.size w W) => countable_any _ C.pend a2 n2 c2 W (hl.p.same h))
  have H0 := Lib.hid (fun W => lpossible_any (n : Int) W)
  have hres : validC C = (decide (1 ≤ (n : Int) ∧ (n : Int) ≤ 32) && decide (n = n2) && C.live.all okN && C.pend.all okN) := by
    unfold validC
    rw [hlen, hlen2]
    have e1 : decide (1 ≤ (n : Int) ∧ (n : Int) ≤ 32) = (decide (1 ≤ n) && decide (n ≤ 32)) := by
      rw [← Bool.decide_and]; exact decide_eq_decide.2 (by omega)
    rw [e1]
    generalize decide (1 ≤ n) = x1
    generalize decide (n ≤ 32) = x2
    generalize decide (n = n2) = x3
    cases x1 <;> cases x2 <;> cases x3 <;> rfl
  rw [hres]
  generalize decide (1 ≤ (n : Int) ∧ (n : Int) ≤ 32) = P at *
  generalize C.live.all okN = A at *
  generalize C.pend.all okN = B at *
  have hcp := hl.l.cap
  have hcp2 := hl.p.cap
  unfold maxLen at hcp hcp2
  clear hl hres hlen hlen2
  obtain ⟨R, hR⟩ : ∃ R, R = (P && decide (n = n2) && A && B) := ⟨_, rfl⟩
  rw [← hR]
  have HR := Lib.hid hR
  clear hR
  have hcases : (P = false) ∨ (P = true ∧ ¬ n = n2) ∨ (P = true ∧ n = n2 ∧ A = false) ∨ (P = true ∧ n = n2 ∧ A = true) := by
    cases P
    · exact .inl rfl
    · by_cases h : n = n2
      · cases A
        · exact .inr (.inr (.inl ⟨rfl, h, rfl⟩))
        · exact .inr (.inr (.inr ⟨rfl, h, rfl⟩))
      · exact .inr (.inl ⟨rfl, h⟩)
  rcases hcases with rfl | ⟨rfl, g1⟩ | ⟨rfl, rfl, rfl⟩ | ⟨rfl, rfl, rfl⟩
  · go_enter Try.func22, Try.ntmps22
    obtain ⟨c0, c1⟩ := two_row hr0
    generalize hw0 : w.alloc (cntRow a n c a2 n2 c2) = w0 at *
    go_wp2_with (first
      | (go_at_call 29; ((with_reducible refine (H0.out _).mono ?_); rintro r9 w1 ⟨rfl, rfl⟩)))
    go_ret
    exact ⟨i_b (by rw [HR.out]; rfl), hA⟩
  · have t1 : decide (n = n2) = false := by simpa using g1
    have t2 : ((n2 : Int) == (n : Int)) = false := by simp; omega
    have t3 : (n2 == n) = false := by simp; omega
    go_enter Try.func22, Try.ntmps22
    obtain ⟨c0, c1⟩ := two_row hr0
    generalize hw0 : w.alloc (cntRow a n c a2 n2 c2) = w0 at *
    go_wp2_with (first
      | (go_at_call 29; ((with_reducible refine (H0.out _).mono ?_); rintro r9 w1 ⟨rfl, rfl⟩)))
    go_ret
    exact ⟨i_b (by rw [HR.out, t1]; rfl), hA⟩
  · have t1 : decide (n = n) = true := by simp
    go_enter Try.func22, Try.ntmps22
    obtain ⟨c0, c1⟩ := two_row hr0
    generalize hw0 : w.alloc (cntRow a n c a2 n c2) = w0 at *
    go_wp2_with (first
      | (go_at_call 29; ((with_reducible refine (H0.out _).mono ?_); rintro r9 w1 ⟨rfl, rfl⟩))
      | (go_at_call 41; ((with_reducible refine (H1.out _ hA).mono ?_); rintro r9 w1 ⟨rfl, h1⟩; have b1 := hA.trans (h1.mono hA.size); clear H1)))
    go_ret
    exact ⟨i_b (by rw [HR.out, t1]; rfl), b1⟩
  · have t1 : decide (n = n) = true := by simp
    go_enter Try.func22, Try.ntmps22
    obtain ⟨c0, c1⟩ := two_row hr0
    generalize hw0 : w.alloc (cntRow a n c a2 n c2) = w0 at *
    go_wp2_with (first
      | (go_at_call 29; ((with_reducible refine (H0.out _).mono ?_); rintro r9 w1 ⟨rfl, rfl⟩))
      | (go_at_call 41; ((with_reducible refine (H1.out _ hA).mono ?_); rintro r9 w1 ⟨rfl, h1⟩; have b1 := hA.trans (h1.mono hA.size); have hr1 := e_on h1 hr0 (e_lt hr0); clear c0 c1; obtain ⟨c0, c1⟩ := two_row hr1; clear H1))
      | (go_at_call 41; ((with_reducible refine (H2.out _ b1).mono ?_); rintro r9 w2 ⟨rfl, h2⟩; have b2 := b1.trans (h2.mono b1.size); clear H2)))
    go_ret
    exact ⟨i_b (by rw [HR.out, t1]; rfl), b2⟩
end Go.Proofs.Ytigmjpkhpoolkaa.Ents
