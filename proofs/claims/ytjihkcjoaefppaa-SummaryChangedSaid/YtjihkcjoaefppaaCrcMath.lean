/- The plain arithmetic of CRC-32, taken bit by bit over natural numbers of any width: one shift is linear and one-to-one on 32 bits; bytes that are fed one after the other are one number that is shifted as often as it has bits. No condition. -/
namespace Go.Proofs.Ytjihkcjoaefppaa.CrcMath

def poly : Nat := 3988292384
/-- one bit is taken off -/
def sh (x : Nat) : Nat := (x >>> 1) ^^^ (if x % 2 = 1 then poly else 0)
/-- n bits are taken off -/
def shn : Nat → Nat → Nat
  | 0, x => x
  | n + 1, x => shn n (sh x)
def tab (j : Nat) : Nat := shn 8 j

theorem sr1 (x : Nat) : x >>> 1 = x / 2 := by simp [Nat.shiftRight_eq_div_pow]

theorem xor_mod_two (a b : Nat) : (a ^^^ b) % 2 = (a + b) % 2 := by
  have h := Nat.testBit_xor a b 0
  simp only [Nat.testBit_zero] at h
  rcases Nat.mod_two_eq_zero_or_one a with ha | ha <;> rcases Nat.mod_two_eq_zero_or_one b with hb | hb <;>
    rcases Nat.mod_two_eq_zero_or_one (a ^^^ b) with hc | hc <;> simp [ha, hb, hc] at h <;> omega

theorem sh_xor (a b : Nat) : sh (a ^^^ b) = sh a ^^^ sh b := by
  unfold sh
  rw [Nat.shiftRight_xor_distrib, xor_mod_two]
  rcases Nat.mod_two_eq_zero_or_one a with ha | ha <;> rcases Nat.mod_two_eq_zero_or_one b with hb | hb
  · rw [if_neg (by omega), if_neg (by omega), if_neg (by omega)]; simp
  · rw [if_pos (by omega), if_neg (by omega), if_pos (by omega)]; simp [Nat.xor_assoc]
  · rw [if_pos (by omega), if_pos (by omega), if_neg (by omega)]
    simp only [Nat.xor_zero]
    rw [Nat.xor_assoc, Nat.xor_assoc, Nat.xor_comm poly]
  · rw [if_neg (by omega), if_pos (by omega), if_pos (by omega)]
    simp only [Nat.xor_zero]
    have e : (a >>> 1 ^^^ poly) ^^^ (b >>> 1 ^^^ poly) = (a >>> 1 ^^^ b >>> 1) ^^^ (poly ^^^ poly) := by
      simp only [Nat.xor_assoc, Nat.xor_comm poly]
    rw [e, Nat.xor_self, Nat.xor_zero]

theorem shn_xor (n a b : Nat) : shn n (a ^^^ b) = shn n a ^^^ shn n b := by
  induction n generalizing a b with
  | zero => rfl
  | succ n ih => simp only [shn]; rw [sh_xor, ih]

theorem shn_add (m n x : Nat) : shn (m + n) x = shn n (shn m x) := by
  induction m generalizing x with
  | zero => simp [shn]
  | succ m ih => rw [Nat.succ_add]; simp only [shn]; exact ih _

theorem shn_succ (n x : Nat) : shn (n + 1) x = sh (shn n x) := by rw [shn_add]; rfl

theorem sh_zero : sh 0 = 0 := by decide
theorem shn_zero (n : Nat) : shn n 0 = 0 := by
  induction n with
  | zero => rfl
  | succ n ih => simp only [shn]; rw [sh_zero, ih]

theorem sh_twice (y : Nat) : sh (2 * y) = y := by
  unfold sh
  rw [if_neg (by omega), Nat.xor_zero, sr1]; omega

theorem shn_times (k y : Nat) : shn k (2 ^ k * y) = y := by
  induction k with
  | zero => simp [shn]
  | succ k ih => simp only [shn]; rw [Nat.pow_succ, Nat.mul_comm (2 ^ k) 2, Nat.mul_assoc, sh_twice, ih]

theorem sh_lt (x : Nat) (h : x < 4294967296) : sh x < 4294967296 := by
  unfold sh
  have h1 : x >>> 1 < 2 ^ 32 := by rw [sr1]; omega
  have h2 : (if x % 2 = 1 then poly else 0) < 2 ^ 32 := by split <;> decide
  exact Nat.xor_lt_two_pow h1 h2
theorem shn_lt (n x : Nat) (h : x < 4294967296) : shn n x < 4294967296 := by
  induction n generalizing x with
  | zero => exact h
  | succ n ih => exact ih _ (sh_lt x h)

theorem sh_ne (x : Nat) (h : x < 4294967296) (h0 : x ≠ 0) : sh x ≠ 0 := by
  unfold sh
  by_cases hp : x % 2 = 1
  · rw [if_pos hp]
    intro he
    have h1 : x >>> 1 = poly := by
      have := congrArg (· ^^^ poly) he
      simpa [Nat.xor_assoc] using this
    rw [sr1] at h1
    unfold poly at h1; omega
  · rw [if_neg hp, Nat.xor_zero, sr1]; omega
theorem shn_ne (n x : Nat) (h : x < 4294967296) (h0 : x ≠ 0) : shn n x ≠ 0 := by
  induction n generalizing x with
  | zero => exact h0
  | succ n ih => exact ih _ (sh_lt x h) (sh_ne x h h0)

/-- bytes as one number, the first one lowest -/
def num : List UInt8 → Nat
  | [] => 0
  | c :: l => c.toNat + 256 * num l
/-- bytes one after the other -/
def feed : Nat → List UInt8 → Nat
  | x, [] => x
  | x, c :: l => feed (shn 8 (x ^^^ c.toNat)) l

theorem low_xor (a y : Nat) (h : a < 256) : a + 256 * y = a ^^^ (2 ^ 8 * y) := by
  have h2 : a ^^^ (2 ^ 8 * y) = 2 ^ 8 * y + a := by
    rw [Nat.xor_comm]
    apply Nat.eq_of_testBit_eq
    intro i
    rw [Nat.testBit_xor, Nat.testBit_two_pow_mul_add _ (by simpa using h), Nat.testBit_two_pow_mul]
    by_cases hi : i < 8
    · have h8 : ¬ 8 ≤ i := by omega
      simp [hi, h8]
    · have : a.testBit i = false := Nat.testBit_lt_two_pow (Nat.lt_of_lt_of_le h (by
        have : 2 ^ 8 ≤ 2 ^ i := Nat.pow_le_pow_right (by decide) (by omega)
        simpa using this))
      have h8 : 8 ≤ i := by omega
      simp [hi, this, h8]
  rw [h2]; omega

theorem feed_num (l : List UInt8) (x : Nat) : feed x l = shn (8 * l.length) (x ^^^ num l) := by
  induction l generalizing x with
  | nil => simp [feed, num, shn]
  | cons c l ih =>
    have hc : c.toNat < 256 := c.toNat_lt
    simp only [feed, num, List.length_cons]
    rw [ih, low_xor _ _ hc, ← Nat.xor_assoc, Nat.mul_add, Nat.add_comm (8 * l.length), shn_add, shn_xor 8 (x ^^^ c.toNat), shn_times]

theorem feed_append (l m : List UInt8) (x : Nat) : feed x (l ++ m) = feed (feed x l) m := by
  induction l generalizing x with
  | nil => rfl
  | cons c l ih => simp only [List.cons_append, feed]; exact ih _

theorem feed_lt (l : List UInt8) (x : Nat) (h : x < 4294967296) : feed x l < 4294967296 := by
  induction l generalizing x with
  | nil => exact h
  | cons c l ih =>
    have hc : c.toNat < 256 := c.toNat_lt
    exact ih _ (shn_lt 8 _ (Nat.xor_lt_two_pow (n := 32) h (by omega)))

/-- eight bits at once, by the table -/
theorem step_tab (x c : Nat) : shn 8 (x ^^^ c) = (x >>> 8) ^^^ tab ((x % 256) ^^^ c) := by
  have e : x = (x % 256) ^^^ (2 ^ 8 * (x >>> 8)) := by
    rw [← low_xor _ _ (Nat.mod_lt _ (by decide)), Nat.shiftRight_eq_div_pow]; omega
  have e2 : x ^^^ c = ((x % 256) ^^^ c) ^^^ (2 ^ 8 * (x >>> 8)) := by
    conv => lhs; rw [e]
    rw [Nat.xor_assoc, Nat.xor_assoc, Nat.xor_comm c]
  rw [e2, shn_xor, shn_times]
  exact Nat.xor_comm _ _

theorem idx_lt (x c : Nat) (hc : c < 256) : (x % 256) ^^^ c < 256 :=
  Nat.xor_lt_two_pow (n := 8) (Nat.mod_lt _ (by decide)) hc

def not32 (x : Nat) : Nat := 4294967295 - x
theorem not32_not32 (x : Nat) (h : x < 4294967296) : not32 (not32 x) = x := by unfold not32; omega
theorem not32_lt (x : Nat) : not32 x < 4294967296 := by unfold not32; omega
/-- the checksum, continued from s -/
def crc (s : Nat) (l : List UInt8) : Nat := not32 (feed (not32 s) l)
theorem crc_lt (s : Nat) (l : List UInt8) : crc s l < 4294967296 := not32_lt _
theorem crc_append (s : Nat) (l m : List UInt8) : crc s (l ++ m) = crc (crc s l) m := by
  unfold crc
  rw [feed_append, not32_not32 _ (feed_lt _ _ (not32_lt _))]

/-- a change within 32 consecutive bits is noticed -/
theorem burst (l m : List UInt8) (hl : l.length = m.length) (at_ change : Nat) (hc : change < 4294967296) (h0 : change ≠ 0) (hat : at_ ≤ 8 * l.length)
    (hx : num l ^^^ num m = 2 ^ at_ * change) : crc 0 l ≠ crc 0 m := by
  intro he
  have hf : feed (not32 0) l = feed (not32 0) m := by
    have := congrArg not32 he
    unfold crc at this
    rwa [not32_not32 _ (feed_lt _ _ (not32_lt _)), not32_not32 _ (feed_lt _ _ (not32_lt _))] at this
  rw [feed_num, feed_num, hl, shn_xor, shn_xor] at hf
  have h1 : shn (8 * m.length) (num l) = shn (8 * m.length) (num m) := by
    have := congrArg (fun t => shn (8 * m.length) (not32 0) ^^^ t) hf
    simpa [← Nat.xor_assoc] using this
  have h2 : shn (8 * m.length) (num l ^^^ num m) = 0 := by rw [shn_xor, h1, Nat.xor_self]
  rw [hx] at h2
  obtain ⟨r, hr⟩ : ∃ r, 8 * m.length = at_ + r := ⟨8 * m.length - at_, by omega⟩
  rw [hr, shn_add, shn_times] at h2
  exact shn_ne r change hc h0 h2

end Go.Proofs.Ytjihkcjoaefppaa.CrcMath
