/- The walks of the small functions of the record: within, mayHold, put, get, number, at, and both Checks, for any record. -/
import Derived.Test.YtjihkcjoaefppaaCodecPad
import Derived.Test.YtjihkcjoaefppaaRecMath
namespace Go.Proofs.Ytjihkcjoaefppaa
open Go.RowKit

def wit (n g : Int) : Bool := decide (0 ≤ n) && decide (n ≤ g)
def hold (k l : Int) : Bool := if k = 1 then (l == 16) else if k = 2 then (l == 0) else decide (l ≤ 20)

theorem within_any (n g : Int) (w : World) :
    Calls Try.prog 47 #[.int .i64 n, .int .i64 g] w fun e w' => e = .returned (.bool (wit n g)) ∧ w = w' := by
  by_cases h : 0 ≤ n
  · by_cases h2 : n ≤ g
    · have e : wit n g = true := by simp [wit, h, h2]
      rw [e]
      go_enter Try.func47, Try.ntmps47
      go_wp2
      go_ret
      exact ⟨rfl, rfl⟩
    · have e : wit n g = false := by simp [wit, h2]
      have hd : decide (n ≤ g) = false := by simpa using h2
      rw [e]
      go_enter Try.func47, Try.ntmps47
      go_wp2
      go_ret
      exact ⟨rfl, rfl⟩
  · have e : wit n g = false := by simp [wit, h]
    have hd : decide (0 ≤ n) = false := by simpa using h
    rw [e]
    go_enter Try.func47, Try.ntmps47
    go_wp2
    go_ret
    exact ⟨rfl, rfl⟩

theorem ret_bool {x y : Bool} (h : x = y) : Ending.returned (.bool x) = .returned (.bool y) := by rw [h]
theorem mayHold_any (k l : Int) (w : World) :
    Calls Try.prog 48 #[.int .i64 k, .int .i64 l] w fun e w' => e = .returned (.bool (hold k l)) ∧ w = w' := by
  by_cases h : k = 1
  · subst h
    go_enter Try.func48, Try.ntmps48
    go_wp2
    go_ret
    exact ⟨ret_bool (by simp [hold]), rfl⟩
  · by_cases h2 : k = 2
    · subst h2
      go_enter Try.func48, Try.ntmps48
      go_wp2
      go_ret
      exact ⟨ret_bool (by simp [hold]), rfl⟩
    · have e : hold k l = decide (l ≤ 20) := by simp [hold, h, h2]
      rw [e]
      go_enter Try.func48, Try.ntmps48
      go_wp2
      go_ret
      exact ⟨rfl, rfl⟩

theorem recPut_any (n size : Int) (w : World) :
    Calls Try.prog 45 #[.int .i64 n, .int .i64 size] w fun e w' => e = .returned (.string ⟨(CodecMath.putL n size).toArray⟩) ∧ Below w.heap.size w w' := by
  have h := put_any n size
  generalize (⟨(CodecMath.putL n size).toArray⟩ : ByteArray) = X at h ⊢
  generalize CodecMath.putE n size = E at h
  have H := Lib.hid h
  clear h
  go_enter Try.func45, Try.ntmps45
  go_wp2_with (go_at_call 30; ((with_reducible refine (H.out _).mono ?_); rintro e w1 ⟨rfl, hb1⟩))
  go_ret
  exact ⟨rfl, hb1⟩
theorem number_any (n size : Int) (w : World) :
    Calls Try.prog 34 #[.int .i64 n, .int .i64 size] w fun e w' => e = .returned (.string ⟨(CodecMath.putL n size).toArray⟩) ∧ Below w.heap.size w w' := by
  have h := refPut_any n size
  generalize (⟨(CodecMath.putL n size).toArray⟩ : ByteArray) = X at h ⊢
  generalize CodecMath.putE n size = E at h
  have H := Lib.hid h
  clear h
  go_enter Try.func34, Try.ntmps34
  go_wp2_with (go_at_call 24; ((with_reducible refine (H.out _).mono ?_); rintro e w1 ⟨rfl, hb1⟩))
  go_ret
  exact ⟨rfl, hb1⟩
theorem recGet_any (b : ByteArray) (at' size : Int) (w : World) (hb : b.size ≤ maxLen) :
    Calls Try.prog 46 #[.string b, .int .i64 at', .int .i64 size] w fun e w' => e = .returned (.int .i64 (CodecMath.getN b.data.toList at' size)) ∧ w = w' := by
  have h := fun w => get_any b at' size w hb
  generalize CodecMath.getN b.data.toList at' size = X at h ⊢
  generalize CodecMath.getE b.data.toList at' size = E at h
  have H := Lib.hid h
  clear h
  go_enter Try.func46, Try.ntmps46
  go_wp2_with (go_at_call 53; ((with_reducible refine (H.out _).mono ?_); rintro e w1 ⟨rfl, rfl⟩))
  go_ret
  exact ⟨rfl, rfl⟩
theorem refAt_any (b : ByteArray) (at' size : Int) (w : World) (hb : b.size ≤ maxLen) :
    Calls Try.prog 31 #[.string b, .int .i64 at', .int .i64 size] w fun e w' => e = .returned (.int .i64 (CodecMath.getN b.data.toList at' size)) ∧ w = w' := by
  have h := fun w => refGet_any b at' size w hb
  generalize CodecMath.getN b.data.toList at' size = X at h ⊢
  generalize CodecMath.getE b.data.toList at' size = E at h
  have H := Lib.hid h
  clear h
  go_enter Try.func31, Try.ntmps31
  go_wp2_with (go_at_call 43; ((with_reducible refine (H.out _).mono ?_); rintro e w1 ⟨rfl, rfl⟩))
  go_ret
  exact ⟨rfl, rfl⟩

/-- a record's fields, as the model has them -/
def mk (k b v m : Int) (p : ByteArray) : RecMath.Rec := ⟨k, b, v, m, p.data.toList⟩
theorem mk_len (k b v m : Int) (p : ByteArray) : (mk k b v m p).payload.length = p.size := size_list p
theorem ret_i {a b : Int} (h : a = b) : Ending.returned (.int .i64 a) = .returned (.int .i64 b) := by rw [h]
theorem check_eq (k b v m : Int) (p : ByteArray) : RecMath.checkE (mk k b v m p) =
    if k < 1 ∨ 6 < k then 3
    else if b < 0 ∨ 4294967295 < b ∨ v < 0 ∨ 1099511627776 < v ∨ m < 0 ∨ 255 < m then 1
    else if 20 < p.size ∨ (k = 1 ∧ p.size ≠ 16) ∨ (k = 2 ∧ p.size ≠ 0) then 2
    else 0 := by
  have h : RecMath.checkE (mk k b v m p) =
    if k < 1 ∨ 6 < k then 3
    else if b < 0 ∨ 4294967295 < b ∨ v < 0 ∨ 1099511627776 < v ∨ m < 0 ∨ 255 < m then 1
    else if 20 < p.data.toList.length ∨ (k = 1 ∧ p.data.toList.length ≠ 16) ∨ (k = 2 ∧ p.data.toList.length ≠ 0) then 2
    else 0 := rfl
  rw [h]
  simp only [size_list]
theorem check_form {k b v m : Int} {p : ByteArray} (h : k < 1 ∨ 6 < k) : RecMath.checkE (mk k b v m p) = 3 := by rw [check_eq, if_pos h]
theorem check_range {k b v m : Int} {p : ByteArray} (h : 1 ≤ k) (h6 : k ≤ 6) (h2 : (wit b 4294967295 && wit v 1099511627776 && wit m 255) = false) : RecMath.checkE (mk k b v m p) = 1 := by
  rw [check_eq, if_neg (by omega), if_pos]
  simp [wit] at h2
  omega
theorem check_size {k b v m : Int} {p : ByteArray} (h : 1 ≤ k) (h6 : k ≤ 6) (hb : wit b 4294967295 = true) (hv : wit v 1099511627776 = true) (hm : wit m 255 = true) :
    RecMath.checkE (mk k b v m p) = if hold k (p.size : Int) = true then 0 else 2 := by
  simp only [wit, Bool.and_eq_true, decide_eq_true_eq] at hb hv hm
  rw [check_eq, if_neg (by omega), if_neg (by omega)]
  unfold hold
  by_cases h1 : k = 1
  · subst h1
    rw [if_pos rfl]
    by_cases hp : p.size = 16
    · rw [if_neg (by omega), if_pos (by simp; omega)]
    · rw [if_pos (by omega), if_neg (by simp; omega)]
  · rw [if_neg h1]
    by_cases h2 : k = 2
    · subst h2
      rw [if_pos rfl]
      by_cases hp : p.size = 0
      · rw [if_neg (by omega), if_pos (by rw [hp]; rfl)]
      · rw [if_pos (by omega), if_neg (by intro hh; have := eq_of_beq hh; omega)]
    · rw [if_neg h2]
      by_cases hp : p.size ≤ 20
      · rw [if_neg (by omega), if_pos (by simp; omega)]
      · rw [if_pos (by omega), if_neg (by simp; omega)]

theorem bnot_false : Value.bool (!false) = .bool true := rfl
set_option maxHeartbeats 400000 in
theorem check_any (k b v m : Int) (p : ByteArray) (w : World) :
    Calls Try.prog 39 #[.agg #[.int .i64 k, .int .i64 b, .int .i64 v, .int .i64 m, .string p]] w fun e w' => e = .returned (.int .i64 (RecMath.checkE (mk k b v m p))) ∧ Below w.heap.size w w' := by
  by_cases h1 : k < 1
  · have E := check_form (b := b) (v := v) (m := m) (p := p) (Or.inl h1)
    rw [E]
    clear E
    go_enter Try.func39, Try.ntmps39
    go_wp2
    go_ret
    exact ⟨rfl, (Below.refl _ _).alloc (Nat.le_refl _) _⟩
  · by_cases h2 : 6 < k
    · have E := check_form (b := b) (v := v) (m := m) (p := p) (Or.inr h2)
      rw [E]
      clear E
      have h1' : 1 ≤ k := by omega
      go_enter Try.func39, Try.ntmps39
      go_wp2
      go_ret
      exact ⟨rfl, (Below.refl _ _).alloc (Nat.le_refl _) _⟩
    · have h1' : 1 ≤ k := by omega
      have h2' : k ≤ 6 := by omega
      have hd2 : decide (6 < k) = false := by simpa using h2
      have g1 := within_any b 4294967295
      have g2 := within_any v 1099511627776
      have g3 := within_any m 255
      have g4 := mayHold_any k p.size
      have E1 := check_range (b := b) (v := v) (m := m) (p := p) h1' h2'
      have E2 := check_size (b := b) (v := v) (m := m) (p := p) h1' h2'
      generalize wit b 4294967295 = B1 at g1 E1 E2
      generalize wit v 1099511627776 = B2 at g2 E1 E2
      generalize wit m 255 = B3 at g3 E1 E2
      generalize hold k p.size = B4 at g4 E2
      generalize RecMath.checkE (mk k b v m p) = E at E1 E2 ⊢
      have H1 := Lib.hid g1
      have H2 := Lib.hid g2
      have H3 := Lib.hid g3
      have H4 := Lib.hid g4
      clear g1 g2 g3 g4 h1 h2
      cases B1 <;> cases B2 <;> cases B3 <;> cases B4
      all_goals
        first | have HE := Lib.hid (E1 rfl) | have HE := Lib.hid ((E2 rfl rfl rfl).trans (if_pos rfl)) | have HE := Lib.hid ((E2 rfl rfl rfl).trans (if_neg (by decide)))
        clear E1 E2
        go_enter Try.func39, Try.ntmps39
        go_wp2_with (first
          | (go_at_call 47; ((with_reducible refine (H1.out _).mono ?_); rintro e w1 ⟨rfl, rfl⟩))
          | (go_at_call 47; ((with_reducible refine (H2.out _).mono ?_); rintro e w1 ⟨rfl, rfl⟩))
          | (go_at_call 47; ((with_reducible refine (H3.out _).mono ?_); rintro e w1 ⟨rfl, rfl⟩))
          | (go_at_call 48; ((with_reducible refine (H4.out _).mono ?_); rintro e w1 ⟨rfl, rfl⟩)))
        go_ret
        exact ⟨ret_i HE.out.symm, (Below.refl _ _).alloc (Nat.le_refl _) _⟩

set_option maxHeartbeats 400000 in
theorem refCheck_any (k b v m : Int) (p : ByteArray) (w : World) :
    Calls Try.prog 33 #[.agg #[.int .i64 k, .int .i64 b, .int .i64 v, .int .i64 m, .string p]] w fun e w' => e = .returned (.int .i64 (RecMath.checkE (mk k b v m p))) ∧ Below w.heap.size w w' := by
  have E := check_eq k b v m p
  generalize RecMath.checkE (mk k b v m p) = X at E ⊢
  by_cases h1 : k < 1
  · rw [if_pos (by omega)] at E; have HE := Lib.hid E; clear E
    go_enter Try.func33, Try.ntmps33
    go_wp2
    go_ret
    exact ⟨ret_i HE.out.symm, (Below.refl _ _).alloc (Nat.le_refl _) _⟩
  have h1' : 1 ≤ k := by omega
  by_cases h2 : 6 < k
  · rw [if_pos (by omega)] at E; have HE := Lib.hid E; clear E h1
    go_enter Try.func33, Try.ntmps33
    go_wp2
    go_ret
    exact ⟨ret_i HE.out.symm, (Below.refl _ _).alloc (Nat.le_refl _) _⟩
  have d2 : decide (6 < k) = false := by simpa using h2
  rw [if_neg (by omega)] at E
  clear h1 h2
  by_cases h3 : b < 0
  · rw [if_pos (by omega)] at E; have HE := Lib.hid E; clear E
    go_enter Try.func33, Try.ntmps33
    go_wp2
    go_ret
    exact ⟨ret_i HE.out.symm, (Below.refl _ _).alloc (Nat.le_refl _) _⟩
  have d3 : decide (b < 0) = false := by simpa using h3
  have h3' : 0 ≤ b := by omega
  by_cases h4 : 4294967295 < b
  · rw [if_pos (by omega)] at E; have HE := Lib.hid E; clear E h3
    go_enter Try.func33, Try.ntmps33
    go_wp2
    go_ret
    exact ⟨ret_i HE.out.symm, (Below.refl _ _).alloc (Nat.le_refl _) _⟩
  have d4 : decide (4294967295 < b) = false := by simpa using h4
  by_cases h5 : v < 0
  · rw [if_pos (by omega)] at E; have HE := Lib.hid E; clear E h3 h4
    go_enter Try.func33, Try.ntmps33
    go_wp2
    go_ret
    exact ⟨ret_i HE.out.symm, (Below.refl _ _).alloc (Nat.le_refl _) _⟩
  have d5 : decide (v < 0) = false := by simpa using h5
  have h5' : 0 ≤ v := by omega
  by_cases h6 : 1099511627776 < v
  · rw [if_pos (by omega)] at E; have HE := Lib.hid E; clear E h3 h4 h5
    go_enter Try.func33, Try.ntmps33
    go_wp2
    go_ret
    exact ⟨ret_i HE.out.symm, (Below.refl _ _).alloc (Nat.le_refl _) _⟩
  have d6 : decide (1099511627776 < v) = false := by simpa using h6
  by_cases h7 : m < 0
  · rw [if_pos (by omega)] at E; have HE := Lib.hid E; clear E h3 h4 h5 h6
    go_enter Try.func33, Try.ntmps33
    go_wp2
    go_ret
    exact ⟨ret_i HE.out.symm, (Below.refl _ _).alloc (Nat.le_refl _) _⟩
  have d7 : decide (m < 0) = false := by simpa using h7
  have h7' : 0 ≤ m := by omega
  by_cases h8 : 255 < m
  · rw [if_pos (by omega)] at E; have HE := Lib.hid E; clear E h3 h4 h5 h6 h7
    go_enter Try.func33, Try.ntmps33
    go_wp2
    go_ret
    exact ⟨ret_i HE.out.symm, (Below.refl _ _).alloc (Nat.le_refl _) _⟩
  have d8 : decide (255 < m) = false := by simpa using h8
  rw [if_neg (by omega)] at E
  clear h3 h4 h5 h6 h7 h8
  by_cases h9 : 20 < p.size
  · rw [if_pos (by omega)] at E; have HE := Lib.hid E; clear E
    have d9 : (20 : Int) < (p.size : Int) := by omega
    go_enter Try.func33, Try.ntmps33
    go_wp2
    go_ret
    exact ⟨ret_i HE.out.symm, (Below.refl _ _).alloc (Nat.le_refl _) _⟩
  have d9 : decide ((20 : Int) < (p.size : Int)) = false := by simp; omega
  by_cases h10 : k = 1
  · subst h10
    by_cases h11 : p.size = 16
    · rw [if_neg (by omega)] at E; have HE := Lib.hid E; clear E h9
      have d11 : ((p.size : Int) != 16) = false := by rw [h11]; rfl
      clear h11
      go_enter Try.func33, Try.ntmps33
      go_wp2
      go_ret
      exact ⟨ret_i HE.out.symm, (Below.refl _ _).alloc (Nat.le_refl _) _⟩
    · rw [if_pos (by omega)] at E; have HE := Lib.hid E; clear E h9
      have d11 : ((p.size : Int) != 16) = true := by simp; omega
      clear h11
      go_enter Try.func33, Try.ntmps33
      go_wp2
      go_ret
      exact ⟨ret_i HE.out.symm, (Below.refl _ _).alloc (Nat.le_refl _) _⟩
  · have d10 : (k == 1) = false := by simpa using h10
    by_cases h12 : k = 2
    · subst h12
      by_cases h13 : p.size = 0
      · have hpe : p = ⟨#[]⟩ := ByteArray.ext (Array.eq_empty_of_size_eq_zero h13)
        rw [if_neg (by omega)] at E; have HE := Lib.hid E; clear E h9 h10 h13
        subst hpe
        go_enter Try.func33, Try.ntmps33
        go_wp2
        go_ret
        exact ⟨ret_i HE.out.symm, (Below.refl _ _).alloc (Nat.le_refl _) _⟩
      · have hpe : p.toList.isEmpty = false := by
          rw [ByteArray.toList_eq]
          cases hq : p.data.toList with
          | nil => exfalso; apply h13; rw [← size_list, hq]; rfl
          | cons => rfl
        rw [if_pos (by omega)] at E; have HE := Lib.hid E; clear E h9 h10 h13
        go_enter Try.func33, Try.ntmps33
        go_wp2
        go_ret
        exact ⟨ret_i HE.out.symm, (Below.refl _ _).alloc (Nat.le_refl _) _⟩
    · have d12 : (k == 2) = false := by simpa using h12
      rw [if_neg (by omega)] at E; have HE := Lib.hid E; clear E h9 h10 h12
      go_enter Try.func33, Try.ntmps33
      go_wp2
      go_ret
      exact ⟨ret_i HE.out.symm, (Below.refl _ _).alloc (Nat.le_refl _) _⟩

end Go.Proofs.Ytjihkcjoaefppaa
