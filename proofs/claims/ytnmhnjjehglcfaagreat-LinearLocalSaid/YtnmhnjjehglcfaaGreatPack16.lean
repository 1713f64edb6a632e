/- Texts that belong together, part 16. -/
import Derived.Test.YtnmhnjjehglcfaaGreatPack15

/- The walks of the law's awake and of LiveRaw, under the program's contracts. -/
namespace Go.Proofs.YtnmhnjjehglcfaaGreat.Ents
open Go.RowKit Plan EntMath CntMath
end Go.Proofs.YtnmhnjjehglcfaaGreat.Ents

/- The walk of LivePending, under the program's contracts. -/
namespace Go.Proofs.YtnmhnjjehglcfaaGreat.Ents
open Go.RowKit Plan EntMath CntMath
end Go.Proofs.YtnmhnjjehglcfaaGreat.Ents

/- Sets of small numbers as numbers of 32 bits. -/
namespace Go.Proofs.YtnmhnjjehglcfaaGreat.Bits
open Go.RowKit Plan
theorem wrap_u32 {n : Nat} (h : n < 2 ^ 32) : IntKind.wrap .u32 (n : Int) = (n : Int) := by
  unfold IntKind.wrap
  simp [IntKind.signed, IntKind.bits]
  omega
theorem bits_or32 {a b : Nat} (ha : a < 2 ^ 30) (hb : b < 2 ^ 30) : bits .or .u32 (a : Int) (b : Int) = ((a ||| b : Nat) : Int) := by
  have h1 : a ||| b < 2 ^ 30 := Nat.or_lt_two_pow ha hb
  show IntKind.wrap .u32 _ = _
  rw [show (BitVec.ofInt (IntKind.bits .u32) (a : Int) ||| BitVec.ofInt (IntKind.bits .u32) (b : Int)).toNat = a ||| b by
    rw [BitVec.toNat_or, BitVec.toNat_ofInt, BitVec.toNat_ofInt]
    show (((a : Int) % 2 ^ 32).toNat) ||| (((b : Int) % 2 ^ 32).toNat) = _
    congr 1 <;> omega, wrap_u32 (by omega)]
theorem bits_and32 {a b : Nat} (ha : a < 2 ^ 30) (_ : b < 2 ^ 30) : bits .and .u32 (a : Int) (b : Int) = ((a &&& b : Nat) : Int) := by
  have h1 : a &&& b ≤ a := Nat.and_le_left
  show IntKind.wrap .u32 _ = _
  rw [show (BitVec.ofInt (IntKind.bits .u32) (a : Int) &&& BitVec.ofInt (IntKind.bits .u32) (b : Int)).toNat = a &&& b by
    rw [BitVec.toNat_and, BitVec.toNat_ofInt, BitVec.toNat_ofInt]
    show (((a : Int) % 2 ^ 32).toNat) &&& (((b : Int) % 2 ^ 32).toNat) = _
    congr 1 <;> omega, wrap_u32 (by omega)]
theorem bits_andNot32 {a b : Nat} (ha : a < 2 ^ 30) (hb : b < 2 ^ 30) : bits .andNot .u32 (a : Int) (b : Int) = ((andN a b : Nat) : Int) := by
  have h1 := andN_le (b := b) (show a < 2 ^ 62 by omega)
  show IntKind.wrap .u32 _ = _
  rw [show (BitVec.ofInt (IntKind.bits .u32) (a : Int) &&& ~~~ BitVec.ofInt (IntKind.bits .u32) (b : Int)).toNat = andN a b by
    rw [BitVec.ofInt_natCast, BitVec.ofInt_natCast]
    refine Nat.eq_of_testBit_eq fun i => ?_
    rw [andN_bit (by omega) (by omega)]
    show (BitVec.ofNat 32 a &&& ~~~ BitVec.ofNat 32 b).toNat.testBit i = _
    by_cases hi : i < 32
    · rw [← BitVec.getLsbD, BitVec.getLsbD_and, BitVec.getLsbD_not, BitVec.getLsbD_ofNat, BitVec.getLsbD_ofNat]
      simp [hi]
    · have h2 : a.testBit i = false := Nat.testBit_lt_two_pow (Nat.lt_of_lt_of_le ha (Nat.pow_le_pow_right (by decide) (by omega)))
      rw [h2, ← BitVec.getLsbD, BitVec.getLsbD_of_ge _ _ (by omega)]; rfl, wrap_u32 (by omega)]
theorem has_bit {D i : Nat} (hD : D < 2 ^ 30) : (bits .and .u32 ((D : Int) / 2 ^ i) 1 == 1) = D.testBit i := by
  have h1 : ((D : Int) / 2 ^ i) = ((D >>> i : Nat) : Int) := by
    rw [Nat.shiftRight_eq_div_pow]
    simp
  have h2 : D >>> i ≤ D := by rw [Nat.shiftRight_eq_div_pow]; exact Nat.div_le_self _ _
  rw [h1]
  have h3 := bits_and32 (a := D >>> i) (b := 1) (by omega) (by decide)
  rw [show ((1 : Nat) : Int) = 1 from rfl] at h3
  rw [h3, Nat.testBit]
  have h4 : D >>> i &&& 1 = (D >>> i) % 2 := Nat.and_one_is_mod _
  have h5 : 1 &&& D >>> i = (D >>> i) % 2 := by rw [Nat.and_comm]; exact h4
  rw [h4, h5]
  have h6 : (D >>> i) % 2 = 0 ∨ (D >>> i) % 2 = 1 := by omega
  rcases h6 with h6 | h6 <;> rw [h6] <;> rfl
end Go.Proofs.YtnmhnjjehglcfaaGreat.Bits

/- A list that is written out, as one of the walk's own. -/
namespace Go.Proofs.YtnmhnjjehglcfaaGreat.Env
open Go.RowKit Plan Ents Rws
section
variable {w W : World} {T : List Thing} {α : Type} {R : Row α}
theorem Env.lit (hR : R.Ok) (K : Env w W T) (L : List α) (n : Nat) (hl : L.length = n) (hn : n ≤ maxLen) : Env w (W.alloc (.cells (R.all L).toArray R.et)) (lst R (slv W.heap.size n n) n L :: T) :=
  K.cons ((Below.refl _ _).alloc (Nat.le_refl _) _) (show Thing.holds w.heap.size (W.alloc (.cells (R.all L).toArray R.et)) (lst R (slv W.heap.size n n) n L) from by
    have := World.ownsRow_lit (base := w.heap.size) (e := R.et) (size := R.sz) W (R.all L).toArray n K.hb.size hn (by rw [List.size_toArray, all_length hR, hl])
    exact this) (fun g hg => by obtain rfl := Option.some.inj hg; exact Nat.le_refl _)
end
end Go.Proofs.YtnmhnjjehglcfaaGreat.Env
