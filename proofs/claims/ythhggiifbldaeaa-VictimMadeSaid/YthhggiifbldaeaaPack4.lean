/- Texts that belong together, part 4. -/
import Derived.Test.YthhggiifbldaeaaPack3
import Derived.Test.YthhggiifbldaeaaProg
import Derived.Test.YthhggiifbldaeaaRows
import Derived.Ground.SlgcProg
import Derived.Shelf.SlicesG.Cmp
import Derived.WalkKit
import Derived.ProofKit
import Derived.Outline
import Derived.Lib.Hide
import Derived.WalkSpells
import Derived.WalkLawsBesides
import Derived.Laws.BitsAllLaws
import Derived.Below
import Derived.IntWalk
import Derived.Deep.RegionHeld3
import Derived.Laws.CopyOwn
import Derived.Laws.IdiomStrings
import Derived.Deep.OwnRows

/-
  DERIVED: THE SHELF's CONTRACTS AT THIS DUMP, IN PLAIN WORDS (tools/lay-plain.mjs out of 'TryShelf.lean', which tools/lay-shelf.mjs wrote): THE SAME DECLARATIONS UNDER THE SAME NAMES: 'import', 'namespace', 'open', 'def', 'theorem' AND NOTHING ELSE: no command of the shelf's: FOR A HAND-IN. Each laying: the table of numbers ('.._ren') and one theorem, a field a fact of the dump's own or the kernel's comparison; each contract: ONE APPLICATION.
-/
namespace Go.Proofs
open Go.Shelf
def Try.laysSlC27_f43_ren : Go.Shelf.Ren := ⟨fun | 7 => 43 | n => n, fun | 22 => 3 | 4 => 4 | n => n, fun | n => n⟩
theorem Try.laysSlC27_f43 : Go.Proofs.SlLaysC2.n7 Try.prog Try.laysSlC27_f43_ren := {
  mixed := by kernel_rfl
  f7 := ⟨Try.f43.name, by decide, Try.func43.trans (congrArg some (by kernel_rfl))⟩
  t4 := Try.underlying4
  a4 := Try.isAgg4
  z4 := Try.sizeOf4
  v4 := Try.zeroValue4
  t22 := Try.underlying3
  a22 := Try.isAgg3
  z22 := Try.sizeOf3
  v22 := Try.zeroValue3 }
open Go.Lib in
/-- cmp.isNaN at an int under a name: 'x != x': false. (LAID AT THE INSTANCE 'cmp.isNaN[int]': no walk: one application.) -/
theorem Try.cmp_isNaN_int (x : Int) (w : World) :
    Calls Try.prog 43 #[.int .i64 x] w fun e w' => e = .returned (.bool false) ∧ w' = w := AnyG.cmp_isNaN_int Try.laysSlC27_f43 x w
def Try.laysSlC25_f29_ren : Go.Shelf.Ren := ⟨fun | 5 => 29 | 7 => 43 | n => n, fun | 22 => 3 | 3 => 3 | 4 => 4 | n => n, fun | n => n⟩
theorem Try.laysSlC25_f29 : Go.Proofs.SlLaysC2.n5 Try.prog Try.laysSlC25_f29_ren := {
  mixed := by kernel_rfl
  f5 := ⟨Try.f29.name, by decide, Try.func29.trans (congrArg some (by kernel_rfl))⟩
  f7 := ⟨Try.f43.name, by decide, Try.func43.trans (congrArg some (by kernel_rfl))⟩
  t3 := Try.underlying3
  a3 := Try.isAgg3
  z3 := Try.sizeOf3
  v3 := Try.zeroValue3
  t4 := Try.underlying4
  a4 := Try.isAgg4
  z4 := Try.sizeOf4
  v4 := Try.zeroValue4
  t22 := Try.underlying3
  a22 := Try.isAgg3
  z22 := Try.sizeOf3
  v22 := Try.zeroValue3 }
open Go.Lib in
/-- cmp.Compare at an int under a name: "Compare returns -1 if x is less than y, 0 if x equals y, +1 if x is greater than y.": IT RETURNS 'Lib.compareInt x y'; the world is as it was. (LAID AT THE INSTANCE 'cmp.Compare[int]': no walk: one application.) -/
theorem Try.cmp_Compare_int (x y : Int) (w : World) :
    Calls Try.prog 29 #[.int .i64 x, .int .i64 y] w fun e w' => e = .returned (.int .i64 (Lib.compareInt x y)) ∧ w' = w := AnyG.cmp_Compare_int Try.laysSlC25_f29 x y w
end Go.Proofs

/- The walk of the maker's remainder that is never negative, for every number and every modulus up to 2^62. -/
namespace Go.Proofs.Ythhggiifbldaeaa
open Go.RowKit

theorem mod_val (x m : Int) (hm : 1 ≤ m) (hm2 : m ≤ 4611686018427387904) : (wrap64 (x.tmod m + m)).tmod m = x % m := by
  have h1 : -m < x.tmod m ∧ x.tmod m < m := ⟨by have := Int.lt_tmod_of_pos x (b := m) (by omega); omega, Int.tmod_lt_of_pos x (by omega)⟩
  have w2 : wrap64 (x.tmod m + m) = x.tmod m + m := by unfold wrap64; omega
  rw [w2, Int.tmod_eq_emod_of_nonneg (by omega), Int.add_emod_right]
  rw [Int.tmod_eq_emod]
  split
  · simp
  · rw [show (m.natAbs : Int) = m by omega, Int.sub_emod_right, Int.emod_emod]
theorem ret_i64 {a b : Int} (h : a = b) : Ending.returned (.int .i64 a) = .returned (.int .i64 b) := by rw [h]
theorem mod_any (a m : Int) (h : 1 ≤ m) (hm : m ≤ 4611686018427387904) (w : World) :
    Calls Try.prog 8 #[.int .i64 a, .int .i64 m] w fun e w' => e = .returned (.int .i64 (a % m)) ∧ w = w' := by
  have hv := Lib.hid (mod_val a m h hm)
  go_enter Try.func8, Try.ntmps8
  go_wp2
  go_ret
  exact ⟨ret_i64 hv.out, rfl⟩
end Go.Proofs.Ythhggiifbldaeaa

/- Walks of the small functions beside the codec: the size test. -/
namespace Go.Proofs.Ythhggiifbldaeaa
open Go.RowKit

end Go.Proofs.Ythhggiifbldaeaa

/- The walks of the program's one shift and of the document's own checksum, for any bytes: they are the plain arithmetic's. The bytes are at most as many as any memory holds. -/
namespace Go.Proofs.Ythhggiifbldaeaa
open Go.RowKit

theorem and1 (x : Nat) (hx : x < 4294967296) : bits .and .u32 (x : Int) 1 = ((x % 2 : Nat) : Int) := by
  have := u32_and_nat x 1 hx (by decide)
  simpa [Nat.and_one_is_mod] using this
theorem sh_one (x : Nat) (hx : x < 4294967296) (h : x % 2 = 1) : bits .xor .u32 ((x : Int) / 2) 3988292384 = (CrcMath.sh x : Nat) := by
  have := u32_xor_nat (x / 2) 3988292384 (by omega) (by decide)
  simp only [CrcMath.sh, CrcMath.sr1, h, if_true, CrcMath.poly]
  simpa using this
theorem sh_nil (x : Nat) (h : x % 2 = 0) : (x : Int) / 2 = (CrcMath.sh x : Nat) := by
  simp only [CrcMath.sh, CrcMath.sr1, h]; simp
theorem ret_u32 {a b : Int} (h : a = b) : Ending.returned (.int .u32 a) = .returned (.int .u32 b) := by rw [h]
theorem val_u32 {a b : Int} (h : a = b) : Value.int .u32 a = .int .u32 b := by rw [h]
theorem not_u32 (x : Nat) (h : x < 4294967296) : bits .xor .u32 IntKind.u32.max (x : Int) = (CrcMath.not32 x : Nat) := by
  have := u32_xor_nat 4294967295 x (by decide) h
  have e : 4294967295 ^^^ x = 4294967295 - x := by
    apply Nat.eq_of_testBit_eq
    intro i
    have h1 := Nat.testBit_two_pow_sub_succ (n := 32) h i
    have h2 := Nat.testBit_two_pow_sub_one 32 i
    have e2 : 2 ^ 32 - (x + 1) = 4294967295 - x := by omega
    rw [e2] at h1
    have e3 : (4294967295 : Nat) = 2 ^ 32 - 1 := by decide
    rw [Nat.testBit_xor, h1, e3, h2]
    by_cases hi : i < 32
    · simp [hi]
    · have : x.testBit i = false := Nat.testBit_lt_two_pow (Nat.lt_of_lt_of_le h (by
        have : 2 ^ 32 ≤ 2 ^ i := Nat.pow_le_pow_right (by decide) (by omega)
        simpa using this))
      simp [hi, this]
  rw [e] at this
  exact this

theorem take_snoc (s : ByteArray) (k : Nat) (h : k < s.size) : s.data.toList.take (k + 1) = s.data.toList.take k ++ [s[k]] := by
  rw [List.take_succ_eq_append_getElem (by simpa using h)]; rfl
theorem feed_snoc (x : Nat) (s : ByteArray) (k : Nat) (h : k < s.size) : CrcMath.feed x (s.data.toList.take (k + 1)) = CrcMath.shn 8 (CrcMath.feed x (s.data.toList.take k) ^^^ s[k].toNat) := by
  rw [take_snoc s k h, CrcMath.feed_append]; rfl

set_option maxHeartbeats 400000 in
theorem ref_any (x : Nat) (s : ByteArray) (hx : x < 4294967296) (hs : s.size ≤ maxLen) (w : World) :
    Calls Try.prog 62 #[.int .u32 (x : Int), .string s] w fun e w' => e = .returned (.int .u32 (CrcMath.crc x s.data.toList : Nat)) ∧ w = w' := by
  unfold maxLen at hs
  have hnot := Lib.hid (not_u32 x hx)
  go_enter Try.func62, Try.ntmps62
  go_wp2
  go_loop [5, 6] (fun v i => ∃ k : Nat, k ≤ s.size ∧ i = .int .i64 k ∧ v = .int .u32 (CrcMath.feed (CrcMath.not32 x) (s.data.toList.take k) : Nat)) (fun _ i => s.size - (intOf i).toNat)
  case atStart => exact ⟨0, Nat.zero_le _, rfl, val_u32 hnot.out⟩
  case round =>
    obtain ⟨k, hk, rfl, rfl⟩ := hrel
    have hlt32 := CrcMath.feed_lt (s.data.toList.take k) _ (CrcMath.not32_lt x)
    by_cases hlt : k < s.size
    · have hf := Lib.hid (feed_snoc (CrcMath.not32 x) s k hlt)
      generalize CrcMath.feed (CrcMath.not32 x) (s.data.toList.take k) = X at hf hlt32 ⊢
      have hc : s[k].toNat < 256 := s[k].toNat_lt
      have hX := CrcMath.shn_lt
      have hx0 := Lib.hid (u32_xor_nat X s[k].toNat hlt32 (by omega))
      have hXc : X ^^^ s[k].toNat < 4294967296 := Nat.xor_lt_two_pow (n := 32) hlt32 (by omega)
      clear hlt32 hX
      go_wp2
      go_loop [5, 7] (fun v i => ∃ m : Nat, m ≤ 8 ∧ i = .int .i64 m ∧ v = .int .u32 (CrcMath.shn m (X ^^^ s[k].toNat) : Nat)) (fun _ i => 8 - (intOf i).toNat)
      case atStart => exact ⟨0, Nat.zero_le _, rfl, val_u32 hx0.out⟩
      case round =>
        obtain ⟨m, hm, rfl, rfl⟩ := hrel
        have hy := CrcMath.shn_lt m _ hXc
        have hss := Lib.hid (CrcMath.shn_succ m (X ^^^ s[k].toNat))
        by_cases h8 : m < 8
        · generalize CrcMath.shn m (X ^^^ s[k].toNat) = Y at hy hss ⊢
          have ha := and1 Y hy
          rcases Nat.mod_two_eq_zero_or_one Y with h | h
          · have ht : (bits .and .u32 (Y : Int) 1 == 1) = false := by rw [ha, h]; rfl
            have hs' := Lib.hid (sh_nil Y h)
            clear ha h
            go_wp2
            go_round
            case rel => exact ⟨m + 1, by omega, by go_num, val_u32 (by rw [hss.out]; exact hs'.out)⟩
            case measure => simp [intOf]; omega
          · have ht : (bits .and .u32 (Y : Int) 1 == 1) = true := by rw [ha, h]; rfl
            have hs' := Lib.hid (sh_one Y hy h)
            clear ha h
            go_wp2
            go_round
            case rel => exact ⟨m + 1, by omega, by go_num, val_u32 (by rw [hss.out]; exact hs'.out)⟩
            case measure => simp [intOf]; omega
        · obtain rfl : m = 8 := by omega
          go_wp2
          go_round
          case rel => exact ⟨k + 1, by omega, by go_num, val_u32 (by rw [hf.out])⟩
          case measure => simp [intOf]; omega
    · have hn2 := Lib.hid (not_u32 _ hlt32)
      clear hlt32
      go_wp2
      go_ret
      exact ⟨ret_u32 (hn2.out.trans (by rw [List.take_of_length_le (by simp; omega)]; rfl)), rfl⟩

end Go.Proofs.Ythhggiifbldaeaa

/- The table of the checksum as it is made, bit by bit: what its cells hold behind each round. No condition. -/
namespace Go.Proofs.Ythhggiifbldaeaa
open Go.RowKit

/-- the table's cells at the start -/
def zeros : Array Value := Array.replicate 256 (.int .u32 0)
/-- the rounds and their bits -/
def Lv (m bit : Nat) : Prop := (m = 0 ∧ bit = 128) ∨ (m = 1 ∧ bit = 64) ∨ (m = 2 ∧ bit = 32) ∨ (m = 3 ∧ bit = 16) ∨ (m = 4 ∧ bit = 8) ∨ (m = 5 ∧ bit = 4) ∨ (m = 6 ∧ bit = 2) ∨ (m = 7 ∧ bit = 1) ∨ (m = 8 ∧ bit = 0)
theorem Lv.le {m bit : Nat} (h : Lv m bit) : bit ≤ 128 ∧ m ≤ 8 := by unfold Lv at h; omega
theorem Lv.next {m bit : Nat} (h : Lv m bit) (hb : 0 < bit) : Lv (m + 1) (bit / 2) := by
  unfold Lv at h
  rcases h with ⟨rfl, rfl⟩ | ⟨rfl, rfl⟩ | ⟨rfl, rfl⟩ | ⟨rfl, rfl⟩ | ⟨rfl, rfl⟩ | ⟨rfl, rfl⟩ | ⟨rfl, rfl⟩ | ⟨rfl, rfl⟩ | ⟨rfl, rfl⟩ <;> first | (simp [Lv]; done) | omega
theorem Lv.room {m bit known : Nat} (h : Lv m bit) (hb : 0 < bit) (hk : known % (2 * bit) = 0) (hlt : known < 256) : known + 2 * bit ≤ 256 := by
  unfold Lv at h
  rcases h with ⟨_, rfl⟩ | ⟨_, rfl⟩ | ⟨_, rfl⟩ | ⟨_, rfl⟩ | ⟨_, rfl⟩ | ⟨_, rfl⟩ | ⟨_, rfl⟩ | ⟨_, rfl⟩ | ⟨_, rfl⟩ <;> omega
theorem Lv.sum {m bit : Nat} (h : Lv m bit) (hb : 0 < bit) : CrcMath.sh (CrcMath.shn m 1) = CrcMath.tab bit := by
  rw [← CrcMath.shn_succ]
  unfold Lv at h
  have hall : (([(0, 128), (1, 64), (2, 32), (3, 16), (4, 8), (5, 4), (6, 2), (7, 1)] : List (Nat × Nat)).all fun p => CrcMath.shn (p.1 + 1) 1 == CrcMath.tab p.2) = true := by kernel_rfl
  have hm : (m, bit) ∈ ([(0, 128), (1, 64), (2, 32), (3, 16), (4, 8), (5, 4), (6, 2), (7, 1)] : List (Nat × Nat)) := by
    rcases h with ⟨rfl, rfl⟩ | ⟨rfl, rfl⟩ | ⟨rfl, rfl⟩ | ⟨rfl, rfl⟩ | ⟨rfl, rfl⟩ | ⟨rfl, rfl⟩ | ⟨rfl, rfl⟩ | ⟨rfl, rfl⟩ | ⟨rfl, rfl⟩ <;> first | (simp; done) | omega
  have h1 := List.all_eq_true.1 hall (m, bit) hm
  simpa using h1
theorem tab_allB : ([128, 64, 32, 16, 8, 4, 2, 1].all fun b => (List.range 256).all fun k => k % (2 * b) != 0 || CrcMath.tab (k + b) == CrcMath.tab k ^^^ CrcMath.tab b) = true := by kernel_rfl
theorem tab_all (b : Nat) (hb : b ∈ [128, 64, 32, 16, 8, 4, 2, 1]) (k : Nat) (hk : k < 256) (h : k % (2 * b) = 0) : CrcMath.tab (k + b) = CrcMath.tab k ^^^ CrcMath.tab b := by
  have h1 := List.all_eq_true.1 (List.all_eq_true.1 tab_allB b hb) k (List.mem_range.2 hk)
  simpa [h] using h1
theorem Lv.tab {m bit known : Nat} (h : Lv m bit) (hb : 0 < bit) (hk : known % (2 * bit) = 0) (hlt : known < 256) : CrcMath.tab (known + bit) = CrcMath.tab known ^^^ CrcMath.tab bit := by
  unfold Lv at h
  have hm : bit ∈ [128, 64, 32, 16, 8, 4, 2, 1] := by
    rcases h with ⟨_, rfl⟩ | ⟨_, rfl⟩ | ⟨_, rfl⟩ | ⟨_, rfl⟩ | ⟨_, rfl⟩ | ⟨_, rfl⟩ | ⟨_, rfl⟩ | ⟨_, rfl⟩ | ⟨_, rfl⟩ <;> first | (simp; done) | omega
  exact tab_all bit hm known hlt hk
/-- what the table holds of the right sums: all at multiples of twice the bit, and those of the bit below known -/
def Filled (bit known : Nat) (cs : Array Value) : Prop := ∀ j, j < 256 → (j % (2 * bit) = 0 ∨ (j % bit = 0 ∧ j < known)) → cs[j]? = some (.int .u32 (CrcMath.tab j : Nat))
theorem Filled.step {m bit known : Nat} {cs : Array Value} (h : Lv m bit) (hb : 0 < bit) (hk : known % (2 * bit) = 0) (hlt : known < 256) (hs : cs.size = 256) (hf : Filled bit known cs) :
    Filled bit (known + 2 * bit) (cs.setIfInBounds (known + bit) (.int .u32 (CrcMath.tab (known + bit) : Nat))) ∧ (known + 2 * bit) % (2 * bit) = 0 := by
  refine ⟨?_, by rw [Nat.add_mod_right]; exact hk⟩
  have hr := h.room hb hk hlt
  intro j hj hor
  rw [Array.getElem?_setIfInBounds]
  by_cases he : known + bit = j
  · subst he; rw [if_pos rfl, if_pos (by omega)]
  · rw [if_neg he]
    apply hf j hj
    unfold Lv at h
    rcases h with ⟨_, rfl⟩ | ⟨_, rfl⟩ | ⟨_, rfl⟩ | ⟨_, rfl⟩ | ⟨_, rfl⟩ | ⟨_, rfl⟩ | ⟨_, rfl⟩ | ⟨_, rfl⟩ | ⟨_, rfl⟩ <;> omega
theorem Filled.next {m bit known : Nat} {cs : Array Value} (h : Lv m bit) (hb : 1 < bit) (hlt : 256 ≤ known) (hf : Filled bit known cs) : Filled (bit / 2) 0 cs := by
  intro j hj hor
  apply hf j hj
  unfold Lv at h
  rcases h with ⟨_, rfl⟩ | ⟨_, rfl⟩ | ⟨_, rfl⟩ | ⟨_, rfl⟩ | ⟨_, rfl⟩ | ⟨_, rfl⟩ | ⟨_, rfl⟩ | ⟨_, rfl⟩ | ⟨_, rfl⟩ <;> omega
/-- ahead of a round -/
def Ready (bit : Nat) (cs : Array Value) : Prop := (0 < bit ∧ Filled bit 0 cs) ∨ (bit = 0 ∧ ∀ j, j < 256 → cs[j]? = some (.int .u32 (CrcMath.tab j : Nat)))
theorem Ready.next {m bit known : Nat} {cs : Array Value} (h : Lv m bit) (hb : 0 < bit) (hlt : 256 ≤ known) (hf : Filled bit known cs) : Ready (bit / 2) cs := by
  by_cases h1 : bit = 1
  · subst h1
    exact .inr ⟨rfl, fun j hj => hf j hj (.inr ⟨by omega, by omega⟩)⟩
  · exact .inl ⟨by omega, hf.next h (by omega) hlt⟩
theorem Ready.start : Ready 128 zeros := by
  refine .inl ⟨by decide, fun j hj hor => ?_⟩
  have : j = 0 := by omega
  subst this
  have e : CrcMath.tab 0 = 0 := CrcMath.shn_zero 8
  rw [e]; simp [zeros]
theorem Ready.done {cs : Array Value} (h : Ready 0 cs) : ∀ j, j < 256 → cs[j]? = some (.int .u32 (CrcMath.tab j : Nat)) := by
  rcases h with ⟨h, _⟩ | ⟨_, h⟩
  · omega
  · exact h
theorem Ready.go {bit : Nat} {cs : Array Value} (h : Ready bit cs) (hb : 0 < bit) : Filled bit 0 cs := by
  rcases h with ⟨_, h⟩ | ⟨h, _⟩
  · exact h
  · omega
end Go.Proofs.Ythhggiifbldaeaa

/- A region that leaves its order open, walked in one order: the operations that yield their value in every world that the region keeps to are taken first, of the others only one may come up at a time. Every law holds for any program. -/
namespace Go.Proofs.Ythhggiifbldaeaa.Plan
open Go.RowKit

/-- Is the plan one: a number with 'true' may come up and is free of the others, one with 'false' is the only one that may come up, and all come up. -/
def good (md : Region.Mode) (ops : Array Oper) : List (Nat × Bool) → Array Bool → Bool
  | [], listed => (Region.ready md ops listed).isEmpty
  | (k, true) :: r, listed => (Region.ready md ops listed).contains k && Region.free md ops listed k && good md ops r (listed.setIfInBounds k true)
  | (k, false) :: r, listed => (Region.ready md ops listed == [k]) && good md ops r (listed.setIfInBounds k true)

/-- The operations of a plan, one after the other. -/
def goes (P : Program) (ops : Array Oper) (Q : Exit → Act → World → Prop) (S : World → Prop) : List (Option Oper × Bool) → Act → World → Prop
  | [], a, w => Q .normal a w
  | (none, _) :: _, _, _ => False
  | (some o, true) :: r, a, w => ∃ v, YieldsIf P ops S o v a ∧ goes P ops Q S r (a.put o.dst v) w
  | (some o, false) :: r, a, w => ∃ R : Act → World → Prop, (∀ a' w', R a' w' → S w' ∧ goes P ops Q S r a' w') ∧ (if Region.wanted o (yielded ops a.tmps) then o.wp P a w R Q else R (a.put o.dst undef) w)

section
variable {P : Program} {ops : Array Oper} {Q : Exit → Act → World → Prop} {S : World → Prop}
theorem held_of_goes (hs : Region.noSelect ops = true) (hQ : ∀ c a d v w, Q (.panic c) (Act.put a d v) w → Q (.panic c) a w) :
    ∀ (plan : List (Nat × Bool)) (listed : Array Bool) (a : Act) (w : World), good .any ops plan listed = true → S w →
      goes P ops Q S (plan.map fun p => (ops[p.1]?, p.2)) a w → wpAnyH P .any ops Q S plan.length listed a w
  | [], listed, a, w, hB, _, h => by
    refine wpAnyH_done ?_ h 0
    simpa [good] using hB
  | (k, true) :: r, listed, a, w, hB, hS, h => by
    simp only [good, Bool.and_eq_true] at hB
    simp only [List.map_cons] at h
    cases ho : ops[k]? with
    | none => rw [ho] at h; exact h.elim
    | some o =>
      rw [ho] at h
      obtain ⟨v, hy, hr⟩ := h
      exact wpAnyH_take ho hs hB.1.2 hB.1.1 (fun c a w => hQ c a o.dst v w) hy hS (held_of_goes hs hQ r _ _ _ hB.2 hS hr)
  | (k, false) :: r, listed, a, w, hB, hS, h => by
    simp only [good, Bool.and_eq_true, beq_iff_eq] at hB
    simp only [List.map_cons] at h
    refine wpAnyH_all hB.1 (by simp) fun i hi => ?_
    have hik : i = k := by simpa using hi
    subst hik
    cases ho : ops[i]? with
    | none => rw [ho] at h; exact h.elim
    | some o =>
      rw [ho] at h
      obtain ⟨R, hR, hr⟩ := h
      have hw : wpOp P ops Q i R a w := by
        unfold wpOp
        simp only [ho]
        split
        · rename_i hw
          rw [if_pos hw] at hr
          exact .inl hr
        · rename_i hw
          rw [if_neg hw] at hr
          exact hr
      exact wpOp_mono (fun a' w' h' => ⟨(hR a' w' h').1, held_of_goes hs hQ r _ _ _ hB.2 (hR a' w' h').1 (hR a' w' h').2⟩) hw
/-- THE BEGINNING: S is what the region keeps to. -/
theorem start {id : Nat} {a : Act} {w : World} (S : World → Prop) (plan : List (Nat × Bool)) (hm : P.follows .mixedOrders = true) (hs : Region.noSelect ops = true) (hl : plan.length = ops.size)
    (hB : good .any ops plan (Array.replicate ops.size false) = true) (hS : S w.drew)
    (h : goes P ops (NoPanic Q) S (plan.map fun p => (ops[p.1]?, p.2)) a w.drew) : (Code.region id ops true).wp P Q a w :=
  wp_region_noPanic (wp_region_held hm (by
    rw [← hl] at hB ⊢
    rw [hl] at hB ⊢
    have := held_of_goes (P := P) (Q := NoPanic Q) (S := S) hs (fun _ _ _ _ _ h => h) plan (Array.replicate ops.size false) a w.drew hB hS h
    rw [hl] at this
    exact this))
/-- THE END. -/
theorem ends {Q : Exit → Act → World → Prop} {a : Act} {w : World} (h : Q .normal a w) : goes P ops (NoPanic Q) S [] a w := h
/-- One that yields its value in every world that meets S. -/
theorem take {o : Oper} {r : List (Option Oper × Bool)} {a : Act} {w : World} (v : Value) (hw : Region.wanted o (yielded ops a.tmps) = true) (hv : ∀ w, S w → (execOp a.eval o).run P w = .ok (.value v) w)
    (h : goes P ops Q S r (a.put o.dst v) w) : goes P ops Q S ((some o, true) :: r) a w := ⟨v, .inl ⟨hw, hv⟩, h⟩
/-- One that is passed over. -/
theorem pass {o : Oper} {r : List (Option Oper × Bool)} {a : Act} {w : World} (hw : Region.wanted o (yielded ops a.tmps) = false)
    (h : goes P ops Q S r (a.put o.dst undef) w) : goes P ops Q S ((some o, true) :: r) a w := ⟨undef, .inr ⟨hw, rfl⟩, h⟩
theorem pass' {o : Oper} {r : List (Option Oper × Bool)} {a : Act} {w : World} (hw : Region.wanted o (yielded ops a.tmps) = false) (hS : S w)
    (h : goes P ops Q S r (a.put o.dst undef) w) : goes P ops Q S ((some o, false) :: r) a w :=
  ⟨fun a' w' => S w' ∧ goes P ops Q S r a' w', fun _ _ h => h, by rw [if_neg (by simp [hw])]; exact ⟨hS, h⟩⟩
/-- One that is carried out. -/
theorem carry {o : Oper} {r : List (Option Oper × Bool)} {a : Act} {w : World} (hw : Region.wanted o (yielded ops a.tmps) = true)
    (h : o.wp P a w (fun a' w' => S w' ∧ goes P ops Q S r a' w') Q) : goes P ops Q S ((some o, false) :: r) a w :=
  ⟨fun a' w' => S w' ∧ goes P ops Q S r a' w', fun _ _ h => h, by rw [if_pos hw]; exact h⟩
/-- A call of a Go function, by its contract. -/
theorem call {o : Oper} {r : List (Option Oper × Bool)} {a : Act} {w : World} (hw : Region.wanted o (yielded ops a.tmps) = true) (f : FuncId) (vs : Array Value) {R : Ending → World → Prop}
    (ho : (execOp a.eval o).run P w = .ok (.enter f vs) w) (hc : Calls P f vs w R)
    (h : ∀ e w', R e w' → ∃ v, e = .returned v ∧ S w' ∧ goes P ops Q S r (a.put o.dst v) w') : goes P ops Q S ((some o, false) :: r) a w :=
  carry hw (by
    unfold Oper.wp
    rw [ho]
    simp only [Oper.upon]
    refine hc.mono fun e w' he => ?_
    obtain ⟨v, rfl, hS, hg⟩ := h e w' he
    exact ⟨hS, hg⟩)
/-- One that makes memory. -/
theorem make {o : Oper} {r : List (Option Oper × Bool)} {a : Act} {w : World} (hw : Region.wanted o (yielded ops a.tmps) = true) (v : Value) (w1 : World)
    (ho : (execOp a.eval o).run P w = .ok (.value v) w1) (hS : S w1) (h : goes P ops Q S r (a.put o.dst v) w1) : goes P ops Q S ((some o, false) :: r) a w :=
  carry hw (by
    unfold Oper.wp
    rw [ho]
    exact ⟨hS, h⟩)
/-- A store of a whole row into a block of its own. -/
theorem store {o : Oper} {r : List (Option Oper × Bool)} {a : Act} {w : World} (hw : Region.wanted o (yielded ops a.tmps) = true) (ty : TypeId) (x y : Operand) (ho : o.op = .store ty x y)
    (g : Nat) (cells : Array Value) (hx : a.eval x = .pointer (some ⟨g, 0, none⟩)) (hy : a.eval y = .agg cells)
    (t : TypeId) (old : Array Value) (hg : w.heap[g]? = some (.cells old t (0, 0))) (hi : (P.info? ty).map (·.size) = some cells.size)
    (hold : old.size = cells.size) (h1 : cells.all (·.oneCell') = true)
    (hS : S (w.setRow g cells)) (h : goes P ops Q S r (a.put o.dst undef) (w.setRow g cells)) : goes P ops Q S ((some o, false) :: r) a w :=
  carry hw (wp_store_row ty x y ho g cells hx hy t old hg hi hold h1 ⟨hS, h⟩)
end

/-- A struct result and a plain one. -/
theorem results_cell_tmp {P : Program} {fn : Func} {p q : Tmp} {ty : TypeId} (h : fn.results = #[.cell p ty, .tmp q]) (tmps : Array Value) (w : World) (g : Nat) (t : TypeId) (cs : Array Value) (fr : Nat × Nat) (d : TypeDesc)
    (hp : tmps.getD p undef = .pointer (some ⟨g, 0, none⟩)) (hg : w.heap[g]? = some (.cells cs t fr))
    (hu : P.underlying ty = some d) (hd : (match d with | .struct _ | .array _ _ => true | _ => false) = true) (hi : (P.info? ty).map (·.size) = some cs.size) :
    (results fn tmps).run P w = .ok (.tuple #[.agg cs, tmps.getD q undef]) w := by
  have hp' : tmps[p]?.getD undef = .pointer (some ⟨g, 0, none⟩) := by simpa using hp
  simp [results, h, hp', asAddr, run_loadVar_row w g t ty cs fr d hg hu hd hi]

/-- A store of a whole row, a load of one, at the operation written out: for an arm that is tried at every operation ('with_reducible'). -/
theorem store_lit {P : Program} {ops : Array Oper} {rest : List Oper} {a : Act} {w : World} {Q : Exit → Act → World → Prop} (ty : TypeId) (x y : Operand) {t' : TypeId} {pos : String} {after : Array Edge}
    (g : Nat) (cells : Array Value) {t : TypeId} {old : Array Value} (hg : w.heap[g]? = some (.cells old t (0, 0))) (hx : a.eval x = .pointer (some ⟨g, 0, none⟩)) (hy : a.eval y = .agg cells)
    (hi : (P.info? ty).map (·.size) = some cells.size) (hold : old.size = cells.size) (h1 : cells.all (·.oneCell') = true)
    (h : wpList P ops Q rest (a.put none undef) (w.setRow g cells)) : wpList P ops Q (⟨none, .store ty x y, t', pos, after, none⟩ :: rest) a w :=
  wpList_store_row rfl ty x y rfl g cells hx hy t old hg hi hold h1 h
theorem load_lit {P : Program} {ops : Array Oper} {rest : List Oper} {a : Act} {w : World} {Q : Exit → Act → World → Prop} (ty : TypeId) (x : Operand) {dst : Option Tmp} {t' : TypeId} {pos : String} {after : Array Edge}
    (g : Nat) {t : TypeId} {cs : Array Value} {fr : Nat × Nat} {d : TypeDesc} (hx : a.eval x = .pointer (some ⟨g, 0, none⟩)) (hg : w.heap[g]? = some (.cells cs t fr))
    (hu : P.underlying ty = some d) (hd : (match d with | .struct _ | .array _ _ => true | _ => false) = true) (hi : (P.info? ty).map (·.size) = some cs.size)
    (h : wpList P ops Q rest (a.put dst (.agg cs)) w) : wpList P ops Q (⟨dst, .load ty x, t', pos, after, none⟩ :: rest) a w :=
  wpList_load_row rfl ty x rfl g hx t cs fr d hg hu hd hi h

/-! what a region keeps to: nothing that it began with has changed -/
theorem bcell {B : Nat} {W w1 : World} (hb : Below B W w1) : (∀ b o, b < B → w1.cell? ⟨b, o, none⟩ = W.cell? ⟨b, o, none⟩) ∧ (∀ b o, b < B → w1.frozen? ⟨b, o, none⟩ = W.frozen? ⟨b, o, none⟩) :=
  ⟨fun b o h => hb.cell (p := ⟨b, o, none⟩) h, fun b o h => hb.frozen (p := ⟨b, o, none⟩) h⟩
/-- what the walk reads off, and what it hands on -/
abbrev Held (B : Nat) (W w' : World) : Prop := (∀ a o, a < B → w'.cell? ⟨a, o, none⟩ = W.cell? ⟨a, o, none⟩) ∧ Below B W w'
theorem held_of {B : Nat} {W w' : World} (h : Below B W w') : Held B W w' := ⟨(bcell h).1, h⟩
theorem held_same {B : Nat} {W : World} : Held B W W.drew := held_of (Below.refl B W).drew
theorem held_new {B : Nat} {W : World} (h : B ≤ W.heap.size) (o : Obj) : Held B W (W.alloc o).drew := held_of ((Below.refl B W).alloc h o).drew
theorem held_call {B : Nat} {W w1 w2 : World} (hB : B ≤ W.heap.size) (h : Held B W w1) (hb : Below w1.heap.size w1 w2) : Held B W w2 := held_of (h.2.trans (hb.mono (Nat.le_trans hB h.2.size)))
theorem held_row {B : Nat} {W w1 : World} (h : Held B W w1) {g : Nat} (hg : B ≤ g) (cs : Array Value) : Held B W (w1.setRow g cs) := held_of (below_setRow h.2 hg cs)
theorem held_alloc {B : Nat} {W w1 : World} (hB : B ≤ W.heap.size) (h : Held B W w1) (o : Obj) : Held B W (w1.alloc o) := held_of (h.2.alloc (Nat.le_trans hB h.2.size) o)
theorem heap_old {B : Nat} {W w1 : World} (h : Below B W w1) {g : Nat} (hg : g < B) {x : Option Obj} (hx : W.heap[g]? = x) : w1.heap[g]? = x := (h.block g hg).trans hx
theorem heap_new1 (w : World) (a b : Obj) : (((w.alloc a).alloc b).drew).heap[w.heap.size + 1]? = some b := by
  show ((w.alloc a).alloc b).heap[w.heap.size + 1]? = some b
  have := heap_alloc_new (w.alloc a) b
  simpa using this
theorem heap_second (w : World) (a b : Obj) : ((w.alloc a).alloc b).heap[w.heap.size + 1]? = some b := heap_new1 w a b
theorem heap_first (w : World) (a b : Obj) : ((w.alloc a).alloc b).heap[w.heap.size]? = some a := (Below.heap_alloc _ _ _ (by simp)).trans (heap_alloc_new w a)
theorem heap_new0 (w : World) (a : Obj) : ((w.alloc a).drew).heap[w.heap.size]? = some a := heap_alloc_new w a
end Go.Proofs.Ythhggiifbldaeaa.Plan

/- The walks of Put: the program's and the document's own, for any number and any size. -/
namespace Go.Proofs.Ythhggiifbldaeaa
open Go.RowKit

theorem info_byte : (Try.prog.info? 5).map (fun i => (i.zero, i.size, i.bytes)) = some (some (.int .u8 0), 1, 1) := by kernel_rfl
theorem wrap_pow (k : Nat) (h7 : k ≤ 7) : wrap64 (2 ^ (8 * k)) = ((256 ^ k : Nat) : Int) := by
  have h := CodecMath.pow_le k h7
  have e : (2 : Int) ^ (8 * k) = ((256 ^ k : Nat) : Int) := by rw [← CodecMath.pow_two]; simp
  rw [e]
  generalize 256 ^ k = p at h ⊢
  unfold wrap64; omega
theorem byte_val (n i : Nat) : (n : Int) / 2 ^ (8 * i) % 256 = ((CodecMath.byteOf n i).toNat : Int) := by
  rw [CodecMath.byteOf_nat]
  have e : (2 : Int) ^ (8 * i) = ((256 ^ i : Nat) : Int) := by rw [← CodecMath.pow_two]; simp
  rw [e]; simp
/-- a block of k bytes of which the first i are those of n -/
def rowF (n i j : Nat) : Value := if j < i then .int .u8 ((CodecMath.byteOf n j).toNat : Int) else .int .u8 0
theorem row_next {w : World} {B k i n : Nat} (h : w.rowIs B 5 k (rowF n i)) {x : Int} (hx : x = ((CodecMath.byteOf n i).toNat : Int)) : (w.setCell ⟨B, i, none⟩ (.int .u8 x)).rowIs B 5 k (rowF n (i + 1)) := by
  refine (h.set i _).congr fun j hj => ?_
  unfold rowF
  by_cases he : j = i
  · subst he; rw [if_pos rfl, if_pos (by omega), hx]
  · rw [if_neg he]
    by_cases h1 : j < i
    · rw [if_pos h1, if_pos (by omega)]
    · rw [if_neg h1, if_neg (by omega)]
theorem conv_bytes {w : World} {B k n : Nat} (h : w.rowIs B 5 k (rowF n k)) :
    (convert 117 9 (.slice (some ⟨B, 0, none⟩) k k)).run Try.prog w = .ok (.string ⟨(CodecMath.bytes n k).toArray⟩) w := by
  have h1 := run_convert_bytes_back (P := Try.prog) w 117 9 5 ⟨B, 0, none⟩ k (CodecMath.bytes n k) Try.underlying117 Try.underlying5 Try.underlying9 (fun j hj => by
    have hj' : j < k := by simpa [CodecMath.bytes_length] using hj
    have e : (⟨B, 0, none⟩ : Addr).add j = ⟨B, j, none⟩ := by unfold Addr.add; split <;> simp_all
    rw [e, h.cell hj', CodecMath.bytes_get, rowF, if_pos hj'])
  rwa [CodecMath.bytes_length] at h1

theorem refPut_ok (n k : Nat) (w : World) (h1 : 1 ≤ k) (h7 : k ≤ 7) (hn : n < 256 ^ k) :
    Calls Try.prog 60 #[.int .i64 n, .int .i64 k] w fun e w' => e = .returned (.tuple #[.string ⟨(CodecMath.bytes n k).toArray⟩, .int .i64 0]) ∧ Below w.heap.size w w' := by
  have hP := wrap_pow k h7
  have hP2 := CodecMath.pow_le k h7
  have hn' : (n : Int) < ((256 ^ k : Nat) : Int) := by omega
  generalize ((256 ^ k : Nat) : Int) = P at hP hn'
  have hmk := fun w => run_make_row' (P := Try.prog) 117 5 (.int .u8 0) 1 Try.underlying117 info_byte rfl .i64 .i64 k (by omega) (by omega) w
  clear hn
  go_enter Try.func60, Try.ntmps60
  go_wp2
  clear hmk
  go_loopw [7] (fun b wr => ∃ i : Nat, b = .int .i64 i ∧ i ≤ k ∧ wr.rowIs w.heap.size 5 k (rowF n i) ∧ Below w.heap.size w wr) (fun b _ => k - (intOf b).toNat)
  case atStart => exact ⟨0, rfl, by omega, (World.rowIs_made _ _ _ _).congr (by simp [rowF]), (Below.refl _ _).alloc (Nat.le_refl _) _⟩
  case round =>
    obtain ⟨i, rfl, hi, hrow, hb⟩ := hrel
    by_cases hlt : i < k
    · have hc := hrow.cell hlt
      have hf := hrow.frozen i
      have hv := Lib.hid (byte_val n i)
      have hnx := Lib.hid (row_next hrow hv.out)
      clear hrow
      go_wp2
      go_roundw
      case rel => exact ⟨i + 1, by go_num, by omega, hnx.out, hb.setCell (Nat.le_refl _) _⟩
      case measure => simp [intOf]; omega
    · obtain rfl : i = k := by omega
      have hcv := conv_bytes hrow
      clear hrow
      go_wp2
      go_ret2
      exact ⟨rfl, hb⟩

/-- arguments that have no bytes -/
theorem put_cases {n k : Int} (h : CodecMath.okPut n k = false) : (k < 1 ∨ 7 < k) ∨ (1 ≤ k ∧ k ≤ 7 ∧ n < 0) ∨ (1 ≤ k ∧ k ≤ 7 ∧ 0 ≤ n ∧ ((256 ^ k.toNat : Nat) : Int) ≤ n) := by
  have h' : ¬ (((1 ≤ k ∧ k ≤ 7) ∧ 0 ≤ n) ∧ n < ((256 ^ k.toNat : Nat) : Int)) := by
    intro hh
    simp only [CodecMath.okPut] at h
    rw [decide_eq_true hh.1.1.1, decide_eq_true hh.1.1.2, decide_eq_true hh.1.2, decide_eq_true hh.2] at h
    cases h
  generalize ((256 ^ k.toNat : Nat) : Int) = P at h' ⊢
  omega
theorem refPut_no (n k : Int) (w : World) (h : CodecMath.okPut n k = false) :
    Calls Try.prog 60 #[.int .i64 n, .int .i64 k] w fun e w' => e = .returned (.tuple #[.string ⟨#[]⟩, .int .i64 1]) ∧ Below w.heap.size w w' := by
  have hp := put_cases h
  clear h
  rcases hp with (h | h) | ⟨h1, h7, hn⟩ | ⟨h1, h7, h0, hn⟩
  · go_enter Try.func60, Try.ntmps60
    go_wp2
    go_ret2
    exact ⟨rfl, Below.refl _ _⟩
  · have hd : decide (7 < k) = true := by simpa using h
    have hd2 : ¬ k < 1 := by omega
    go_enter Try.func60, Try.ntmps60
    go_wp2
    go_ret2
    exact ⟨rfl, Below.refl _ _⟩
  · have hd : decide (n < 0) = true := by simpa using hn
    go_enter Try.func60, Try.ntmps60
    go_wp2
    go_ret2
    exact ⟨rfl, Below.refl _ _⟩
  · obtain ⟨k, rfl⟩ := Int.eq_ofNat_of_zero_le (by omega : 0 ≤ k)
    have hP := wrap_pow k (by omega)
    rw [Int.toNat_natCast] at hn
    generalize ((256 ^ k : Nat) : Int) = P at hP hn
    have hd : decide (P ≤ n) = true := by simpa using hn
    have hd2 : decide (n < 0) = false := by simp; omega
    go_enter Try.func60, Try.ntmps60
    go_wp2
    go_ret2
    exact ⟨rfl, Below.refl _ _⟩

theorem okPut_nat {n k : Int} (h : CodecMath.okPut n k = true) : ∃ n' k' : Nat, n = n' ∧ k = k' ∧ 1 ≤ k' ∧ k' ≤ 7 ∧ n' < 256 ^ k' := by
  simp only [CodecMath.okPut, Bool.and_eq_true, decide_eq_true_eq] at h
  obtain ⟨⟨⟨h1, h7⟩, h0⟩, hn⟩ := h
  refine ⟨n.toNat, k.toNat, by omega, by omega, by omega, by omega, ?_⟩
  generalize 256 ^ k.toNat = P at hn ⊢
  omega
theorem refPut_any (n k : Int) (w : World) :
    Calls Try.prog 60 #[.int .i64 n, .int .i64 k] w fun e w' => e = .returned (.tuple #[.string ⟨(CodecMath.putL n k).toArray⟩, .int .i64 (CodecMath.putE n k)]) ∧ Below w.heap.size w w' := by
  cases h : CodecMath.okPut n k
  · rw [CodecMath.putL_no h, CodecMath.putE_no h]
    exact refPut_no n k w h
  · rw [CodecMath.putL_ok h, CodecMath.putE_ok h]
    obtain ⟨n', k', rfl, rfl, h1, h7, hn⟩ := okPut_nat h
    rw [Int.toNat_natCast, Int.toNat_natCast]
    exact refPut_ok n' k' w h1 h7 hn
end Go.Proofs.Ythhggiifbldaeaa
