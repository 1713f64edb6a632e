
/- The walks of the program's Valid, isOwner, Free of locks. -/
import Derived.Test.YtoclcefnecghfaaLckPRep
namespace Go.Proofs.Ytoclcefnecghfaa.Ents
open Go.RowKit Plan EntMath CntMath LckMath
set_option maxHeartbeats 4000000 in
set_option maxRecDepth 20000 in
theorem lckValid_any (F : Nat → Prop) (O : List Int) (a : Option Addr) (n c : Nat) (w : World) (hl : IList w F a n c O) :
    Calls Try.prog 16 #[lckV a n c] w fun r w' => r = .returned (.bool (validK O)) ∧ Below w.heap.size w w' := by
  have hlen := hl.length
  have hA := (Below.refl w.heap.size w).alloc (Nat.le_refl _) (lckRow a n c)
  have hr0 := heap_alloc_new w (lckRow a n c)
  have H1 := Lib.hid (fun W (h : Below w.heap.size w W) i (hi : i < n) => (hl.same h).at' i hi)
  have hbd := fun j z h => @k_bad O j z h
  have hall := @k_all O
  have hno : ¬ (1 ≤ (n : Int) ∧ (n : Int) ≤ 8) → validK O = false := fun h => by
    cases hv : validK O
    · rfl
    · have := valid_k.1 hv
      omega
  have HP := Lib.hid (fun W => lckPossible_any (n : Int) W)
  have HT := Lib.hid (fun z W => lckThread_any z W)
  rw [hlen] at hall
  generalize validK O = R at *
  have HB := Lib.hid hbd
  have HALL := Lib.hid hall
  have HNO := Lib.hid hno
  clear hbd hall hno
  have hcp := hl.cap
  unfold maxLen at hcp
  clear hl
  by_cases hp : 1 ≤ (n : Int) ∧ (n : Int) ≤ 8
  · rw [decide_eq_true hp] at HP
    go_enter Try.func16, Try.ntmps16
    have c0 := one_row hr0
    generalize hw0 : w.alloc (lckRow a n c) = w0 at *
    go_wp2_with (first
      | (go_at_call 21; ((with_reducible refine (HP.out _).mono ?_); rintro r9 w9 ⟨rfl, rfl⟩)))
    go_loopw [3, 12] (fun _ x wr => ∃ j : Nat, x = .int .i64 (j : Int) ∧ j ≤ n ∧ RowKit.Hid (∀ i : Nat, i < j → ∀ z, O[i]? = some z → -1 ≤ z) ∧ wr.heap[w.heap.size]? = some (lckRow a n c) ∧ Below w.heap.size w wr) (fun _ x _ => n - (intOf x).toNat)
    case atStart => exact ⟨0, rfl, by omega, Lib.hid (fun i h => absurd h (Nat.not_lt_zero _)), hr0, hA⟩
    case round =>
      clear c0 hr0 hA
      obtain ⟨j, rfl, hj, hbf, hr, hb⟩ := hrel
      have c0 := one_row hr
      by_cases hlt : j < n
      · obtain ⟨x, z, rfl, hz, hc⟩ := H1.out wr hb j hlt
        have hjI : (j : Int) < (n : Int) := by omega
        have N1 := Lib.hid (HB.out j z hz)
        have NX := Lib.hid (fun (k1 : -1 ≤ z) (i : Nat) (hi : i < j + 1) => (show ∀ z, O[i]? = some z → -1 ≤ z from by
          rcases Nat.lt_or_ge i j with h1 | h1
          · exact hbf.out i h1
          · obtain rfl : i = j := by omega
            intro q hq
            rw [hz] at hq
            obtain rfl := Option.some.inj hq
            exact k1))
        clear hz
        by_cases q0 : z = -1
        · have HN := Lib.hid (NX.out (by omega))
          subst q0
          go_wp2_with fail
          go_roundw
          case rel => exact ⟨j + 1, by go_num, by omega, HN, hr, hb⟩
          case measure => simp [intOf]; omega
        · have p0 : (z != -1) = true := by simpa using q0
          by_cases q1 : 0 ≤ z
          · have HN := Lib.hid (NX.out (by omega))
            have HT1 := Lib.hid (HT.out z)
            rw [decide_eq_true q1] at HT1
            go_wp2_with (first
              | (go_at_call 24; ((with_reducible refine (HT1.out _).mono ?_); rintro r9 w9 ⟨rfl, rfl⟩)))
            go_roundw
            case rel => exact ⟨j + 1, by go_num, by omega, HN, hr, hb⟩
            case measure => simp [intOf]; omega
          · have HT1 := Lib.hid (HT.out z)
            rw [decide_eq_false q1] at HT1
            have hR := Lib.hid (N1.out (by omega))
            go_wp2_with (first
              | (go_at_call 24; ((with_reducible refine (HT1.out _).mono ?_); rintro r9 w9 ⟨rfl, rfl⟩)))
            go_ret
            exact ⟨by rw [hR.out]; rfl, hb⟩
      · obtain rfl : j = n := by omega
        have hR := Lib.hid (HALL.out (fun i hi => hbf.out i hi))
        have hrI : ¬ (j : Int) < (j : Int) := by omega
        go_wp2_with fail
        go_ret
        exact ⟨by rw [hR.out, decide_eq_true (show 1 ≤ j by omega), decide_eq_true (show j ≤ 8 by omega)]; rfl, hb⟩
  · rw [decide_eq_false hp] at HP
    have hR := Lib.hid (HNO.out hp)
    go_enter Try.func16, Try.ntmps16
    have c0 := one_row hr0
    generalize hw0 : w.alloc (lckRow a n c) = w0 at *
    go_wp2_with (first
      | (go_at_call 21; ((with_reducible refine (HP.out _).mono ?_); rintro r9 w9 ⟨rfl, rfl⟩)))
    go_ret
    exact ⟨by rw [hR.out]; rfl, hA⟩
/-- the locks are valid and have a stripe with this owner -/
def ownK (O : List Int) (s v : Int) : Bool := inK O s && decide (O.getD s.toNat 0 = v)
set_option maxHeartbeats 4000000 in
set_option maxRecDepth 20000 in
theorem lckOwner_any (F : Nat → Prop) (O : List Int) (s v : Int) (a : Option Addr) (n c : Nat) (w : World) (hl : IList w F a n c O) :
    Calls Try.prog 26 #[lckV a n c, .int .i64 s, .int .i64 v] w fun r w' => r = .returned (.bool (ownK O s v)) ∧ Below w.heap.size w w' := by
  have hlen := hl.length
  have hA := (Below.refl w.heap.size w).alloc (Nat.le_refl _) (lckRow a n c)
  have hr0 := heap_alloc_new w (lckRow a n c)
  have HV := Lib.hid (lckValid_any _ O a n c _ (hl.same hA))
  cases hin : inK O s
  · have hfr : ownK O s v = false := by unfold ownK; rw [hin]; rfl
    rw [hfr]
    have h3 := in_three hlen hin
    clear hl hin hfr
    rcases h3 with h3 | ⟨h3, h4⟩ | ⟨h3, h4, h5⟩
    · rw [h3] at HV
      clear h3
      go_enter Try.func26, Try.ntmps26
      generalize hw0 : w.alloc (lckRow a n c) = w0 at *
      go_wp2_with (first
        | ((with_reducible refine Plan.load_lit 24 (.tmp 3) (w.heap.size) ?_ hr0 Try.underlying24 ?_ ?_ ?_); (· rfl); (· rfl); (· exact lck_info); simp only [Act.put, List.setIfInBounds_toArray, List.set_cons_zero, List.set_cons_succ])
        | (go_at_call 16; ((with_reducible refine (HV.out).mono ?_); rintro r9 w1 ⟨rfl, h1⟩; have b1 := hA.trans (h1.mono hA.size); have c0 := one_row (e_on h1 hr0 (e_lt hr0)))))
      go_ret
      exact ⟨rfl, b1⟩
    · rw [h3] at HV
      clear h3
      have p1 : decide (0 ≤ s) = false := by simp; omega
      go_enter Try.func26, Try.ntmps26
      generalize hw0 : w.alloc (lckRow a n c) = w0 at *
      go_wp2_with (first
        | ((with_reducible refine Plan.load_lit 24 (.tmp 3) (w.heap.size) ?_ hr0 Try.underlying24 ?_ ?_ ?_); (· rfl); (· rfl); (· exact lck_info); simp only [Act.put, List.setIfInBounds_toArray, List.set_cons_zero, List.set_cons_succ])
        | (go_at_call 16; ((with_reducible refine (HV.out).mono ?_); rintro r9 w1 ⟨rfl, h1⟩; have b1 := hA.trans (h1.mono hA.size); have c0 := one_row (e_on h1 hr0 (e_lt hr0)))))
      go_ret
      exact ⟨rfl, b1⟩
    · rw [h3] at HV
      clear h3
      have p1 : decide (0 ≤ s) = true := by simpa using h4
      have p2 : decide (s < (n : Int)) = false := by simp; omega
      have p3 : ¬ s < (n : Int) := by omega
      go_enter Try.func26, Try.ntmps26
      generalize hw0 : w.alloc (lckRow a n c) = w0 at *
      go_wp2_with (first
        | ((with_reducible refine Plan.load_lit 24 (.tmp 3) (w.heap.size) ?_ hr0 Try.underlying24 ?_ ?_ ?_); (· rfl); (· rfl); (· exact lck_info); simp only [Act.put, List.setIfInBounds_toArray, List.set_cons_zero, List.set_cons_succ])
        | (go_at_call 16; ((with_reducible refine (HV.out).mono ?_); rintro r9 w1 ⟨rfl, h1⟩; have b1 := hA.trans (h1.mono hA.size); have c0 := one_row (e_on h1 hr0 (e_lt hr0)))))
      go_ret
      exact ⟨rfl, b1⟩
  · obtain ⟨k, rfl, hk, hn8, x, z, rfl, hz, hc⟩ := lck_at hl hin
    rw [(in_k.1 hin).1] at HV
    have hfr : ownK O (k : Int) v = decide (z = v) := by unfold ownK; rw [hin, Int.toNat_natCast, getD_at hz]; rfl
    rw [hfr]
    have hkI : (k : Int) < (n : Int) := by omega
    have hxl : x.block < w.heap.size := by have := World.block_lt_of_cell? w _ hc; rwa [ent_add_block] at this
    have HC := Lib.hid (fun W (h : Below w.heap.size w W) => (h.cell (p := x.add k) (by rw [ent_add_block]; exact hxl)).trans hc)
    clear hl hin hfr hz hc
    have p9 : (z == v) = decide (z = v) := by rw [Bool.eq_iff_iff]; simp
    generalize decide (z = v) = D at *
    go_enter Try.func26, Try.ntmps26
    generalize hw0 : w.alloc (lckRow (some x) n c) = w0 at *
    go_wp2_with (first
      | ((with_reducible refine Plan.load_lit 24 (.tmp 3) (w.heap.size) ?_ hr0 Try.underlying24 ?_ ?_ ?_); (· rfl); (· rfl); (· exact lck_info); simp only [Act.put, List.setIfInBounds_toArray, List.set_cons_zero, List.set_cons_succ])
      | (go_at_call 16; ((with_reducible refine (HV.out).mono ?_); rintro r9 w1 ⟨rfl, h1⟩; have b1 := hA.trans (h1.mono hA.size); have c0 := one_row (e_on h1 hr0 (e_lt hr0)); have c1 := HC.out _ b1)))
    go_ret
    exact ⟨rfl, b1⟩
theorem own_free (O : List Int) (s : Int) : ownK O s (-1) = freeK O s := rfl
set_option maxHeartbeats 1000000 in
theorem lckFree_any (F : Nat → Prop) (O : List Int) (s : Int) (a : Option Addr) (n c : Nat) (w : World) (hl : IList w F a n c O) :
    Calls Try.prog 18 #[lckV a n c, .int .i64 s] w fun r w' => r = .returned (.bool (freeK O s)) ∧ Below w.heap.size w w' := by
  have hA := (Below.refl w.heap.size w).alloc (Nat.le_refl _) (lckRow a n c)
  have hr0 := heap_alloc_new w (lckRow a n c)
  have HO := Lib.hid (lckOwner_any _ O s (-1) a n c _ (hl.same hA))
  rw [own_free] at HO
  clear hl
  go_enter Try.func18, Try.ntmps18
  generalize hw0 : w.alloc (lckRow a n c) = w0 at *
  go_wp2_with (first
    | ((with_reducible refine Plan.load_lit 24 (.tmp 2) (w.heap.size) ?_ hr0 Try.underlying24 ?_ ?_ ?_); (· rfl); (· rfl); (· exact lck_info); simp only [Act.put, List.setIfInBounds_toArray, List.set_cons_zero, List.set_cons_succ])
    | (go_at_call 26; ((with_reducible refine (HO.out).mono ?_); rintro r9 w1 ⟨rfl, h1⟩; have b1 := hA.trans (h1.mono hA.size))))
  go_ret
  exact ⟨rfl, b1⟩
end Go.Proofs.Ytoclcefnecghfaa.Ents
