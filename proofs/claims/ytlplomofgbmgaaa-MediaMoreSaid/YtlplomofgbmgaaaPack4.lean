/- Texts that belong together, part 4. -/
import Derived.Test.YtlplomofgbmgaaaPack3
import Derived.Laws.IdiomStrings
import Derived.Deep.OwnRows
import Derived.Below
import Derived.Laws.Rows
import Derived.Laws.CopyOwn
import Derived.Laws.BitsAllLaws
import Derived.Laws.BitsLemmas
import Derived.WalkSpells

/- The walks of Put: the program's and the document's own, for any number and any size. -/
namespace Go.Proofs.Ytlplomofgbmgaaa
open Go.RowKit

theorem info_byte : (Try.prog.info? 5).map (fun i => (i.zero, i.size, i.bytes)) = some (some (.int .u8 0), 1, 1) := by kernel_rfl
theorem wrap_pow (k : Nat) (h7 : k ≤ 7) : wrap64 (2 ^ (8 * k)) = ((256 ^ k : Nat) : Int) := by
  have h := CodecMath.pow_le k h7
  have e : (2 : Int) ^ (8 * k) = ((256 ^ k : Nat) : Int) := by rw [← CodecMath.pow_two]; simp
  rw [e]
  generalize 256 ^ k = p at h ⊢
  unfold wrap64; omega
theorem byte_val (n i : Nat) : (n : Int) / 2 ^ (8 * i) % 256 = ((CodecMath.byteOf n i).toNat : Int) := by
  rw [CodecMath.byteOf_nat]
  have e : (2 : Int) ^ (8 * i) = ((256 ^ i : Nat) : Int) := by rw [← CodecMath.pow_two]; simp
  rw [e]; simp
/-- a block of k bytes of which the first i are those of n -/
def rowF (n i j : Nat) : Value := if j < i then .int .u8 ((CodecMath.byteOf n j).toNat : Int) else .int .u8 0
theorem row_next {w : World} {B k i n : Nat} (h : w.rowIs B 5 k (rowF n i)) {x : Int} (hx : x = ((CodecMath.byteOf n i).toNat : Int)) : (w.setCell ⟨B, i, none⟩ (.int .u8 x)).rowIs B 5 k (rowF n (i + 1)) := by
  refine (h.set i _).congr fun j hj => ?_
  unfold rowF
  by_cases he : j = i
  · subst he; rw [if_pos rfl, if_pos (by omega), hx]
  · rw [if_neg he]
    by_cases h1 : j < i
    · rw [if_pos h1, if_pos (by omega)]
    · rw [if_neg h1, if_neg (by omega)]
theorem conv_bytes {w : World} {B k n : Nat} (h : w.rowIs B 5 k (rowF n k)) :
    (convert 42 9 (.slice (some ⟨B, 0, none⟩) k k)).run Try.prog w = .ok (.string ⟨(CodecMath.bytes n k).toArray⟩) w := by
  have h1 := run_convert_bytes_back (P := Try.prog) w 42 9 5 ⟨B, 0, none⟩ k (CodecMath.bytes n k) Try.underlying42 Try.underlying5 Try.underlying9 (fun j hj => by
    have hj' : j < k := by simpa [CodecMath.bytes_length] using hj
    have e : (⟨B, 0, none⟩ : Addr).add j = ⟨B, j, none⟩ := by unfold Addr.add; split <;> simp_all
    rw [e, h.cell hj', CodecMath.bytes_get, rowF, if_pos hj'])
  rwa [CodecMath.bytes_length] at h1

theorem refPut_ok (n k : Nat) (w : World) (h1 : 1 ≤ k) (h7 : k ≤ 7) (hn : n < 256 ^ k) :
    Calls Try.prog 63 #[.int .i64 n, .int .i64 k] w fun e w' => e = .returned (.tuple #[.string ⟨(CodecMath.bytes n k).toArray⟩, .int .i64 0]) ∧ Below w.heap.size w w' := by
  have hP := wrap_pow k h7
  have hP2 := CodecMath.pow_le k h7
  have hn' : (n : Int) < ((256 ^ k : Nat) : Int) := by omega
  generalize ((256 ^ k : Nat) : Int) = P at hP hn'
  have hmk := fun w => run_make_row' (P := Try.prog) 42 5 (.int .u8 0) 1 Try.underlying42 info_byte rfl .i64 .i64 k (by omega) (by omega) w
  clear hn
  go_enter Try.func63, Try.ntmps63
  go_wp2
  clear hmk
  go_loopw [7] (fun b wr => ∃ i : Nat, b = .int .i64 i ∧ i ≤ k ∧ wr.rowIs w.heap.size 5 k (rowF n i) ∧ Below w.heap.size w wr) (fun b _ => k - (intOf b).toNat)
  case atStart => exact ⟨0, rfl, by omega, (World.rowIs_made _ _ _ _).congr (by simp [rowF]), (Below.refl _ _).alloc (Nat.le_refl _) _⟩
  case round =>
    obtain ⟨i, rfl, hi, hrow, hb⟩ := hrel
    by_cases hlt : i < k
    · have hc := hrow.cell hlt
      have hf := hrow.frozen i
      have hv := Lib.hid (byte_val n i)
      have hnx := Lib.hid (row_next hrow hv.out)
      clear hrow
      go_wp2
      go_roundw
      case rel => exact ⟨i + 1, by go_num, by omega, hnx.out, hb.setCell (Nat.le_refl _) _⟩
      case measure => simp [intOf]; omega
    · obtain rfl : i = k := by omega
      have hcv := conv_bytes hrow
      clear hrow
      go_wp2
      go_ret2
      exact ⟨rfl, hb⟩

/-- arguments that have no bytes -/
theorem put_cases {n k : Int} (h : CodecMath.okPut n k = false) : (k < 1 ∨ 7 < k) ∨ (1 ≤ k ∧ k ≤ 7 ∧ n < 0) ∨ (1 ≤ k ∧ k ≤ 7 ∧ 0 ≤ n ∧ ((256 ^ k.toNat : Nat) : Int) ≤ n) := by
  have h' : ¬ (((1 ≤ k ∧ k ≤ 7) ∧ 0 ≤ n) ∧ n < ((256 ^ k.toNat : Nat) : Int)) := by
    intro hh
    simp only [CodecMath.okPut] at h
    rw [decide_eq_true hh.1.1.1, decide_eq_true hh.1.1.2, decide_eq_true hh.1.2, decide_eq_true hh.2] at h
    cases h
  generalize ((256 ^ k.toNat : Nat) : Int) = P at h' ⊢
  omega
theorem refPut_no (n k : Int) (w : World) (h : CodecMath.okPut n k = false) :
    Calls Try.prog 63 #[.int .i64 n, .int .i64 k] w fun e w' => e = .returned (.tuple #[.string ⟨#[]⟩, .int .i64 1]) ∧ Below w.heap.size w w' := by
  have hp := put_cases h
  clear h
  rcases hp with (h | h) | ⟨h1, h7, hn⟩ | ⟨h1, h7, h0, hn⟩
  · go_enter Try.func63, Try.ntmps63
    go_wp2
    go_ret2
    exact ⟨rfl, Below.refl _ _⟩
  · have hd : decide (7 < k) = true := by simpa using h
    have hd2 : ¬ k < 1 := by omega
    go_enter Try.func63, Try.ntmps63
    go_wp2
    go_ret2
    exact ⟨rfl, Below.refl _ _⟩
  · have hd : decide (n < 0) = true := by simpa using hn
    go_enter Try.func63, Try.ntmps63
    go_wp2
    go_ret2
    exact ⟨rfl, Below.refl _ _⟩
  · obtain ⟨k, rfl⟩ := Int.eq_ofNat_of_zero_le (by omega : 0 ≤ k)
    have hP := wrap_pow k (by omega)
    rw [Int.toNat_natCast] at hn
    generalize ((256 ^ k : Nat) : Int) = P at hP hn
    have hd : decide (P ≤ n) = true := by simpa using hn
    have hd2 : decide (n < 0) = false := by simp; omega
    go_enter Try.func63, Try.ntmps63
    go_wp2
    go_ret2
    exact ⟨rfl, Below.refl _ _⟩

theorem okPut_nat {n k : Int} (h : CodecMath.okPut n k = true) : ∃ n' k' : Nat, n = n' ∧ k = k' ∧ 1 ≤ k' ∧ k' ≤ 7 ∧ n' < 256 ^ k' := by
  simp only [CodecMath.okPut, Bool.and_eq_true, decide_eq_true_eq] at h
  obtain ⟨⟨⟨h1, h7⟩, h0⟩, hn⟩ := h
  refine ⟨n.toNat, k.toNat, by omega, by omega, by omega, by omega, ?_⟩
  generalize 256 ^ k.toNat = P at hn ⊢
  omega
theorem refPut_any (n k : Int) (w : World) :
    Calls Try.prog 63 #[.int .i64 n, .int .i64 k] w fun e w' => e = .returned (.tuple #[.string ⟨(CodecMath.putL n k).toArray⟩, .int .i64 (CodecMath.putE n k)]) ∧ Below w.heap.size w w' := by
  cases h : CodecMath.okPut n k
  · rw [CodecMath.putL_no h, CodecMath.putE_no h]
    exact refPut_no n k w h
  · rw [CodecMath.putL_ok h, CodecMath.putE_ok h]
    obtain ⟨n', k', rfl, rfl, h1, h7, hn⟩ := okPut_nat h
    rw [Int.toNat_natCast, Int.toNat_natCast]
    exact refPut_ok n' k' w h1 h7 hn
end Go.Proofs.Ytlplomofgbmgaaa

/- The walk of the maker's value of a block: sixteen bytes out of a number. -/
namespace Go.Proofs.Ytlplomofgbmgaaa
open Go.RowKit

/-- a block's cells as bytes -/
def byF (f : Nat → UInt8) (j : Nat) : Value := .int .u8 ((f j).toNat : Int)
/-- the string of a block of bytes -/
theorem conv_row {w : World} {B k : Nat} {f : Nat → UInt8} (h : w.rowIs B 5 k (byF f)) :
    (convert 42 9 (.slice (some ⟨B, 0, none⟩) k k)).run Try.prog w = .ok (.string ⟨((List.range k).map f).toArray⟩) w := by
  have hl : ((List.range k).map f).length = k := by simp
  have h1 := run_convert_bytes_back (P := Try.prog) w 42 9 5 ⟨B, 0, none⟩ k ((List.range k).map f) Try.underlying42 Try.underlying5 Try.underlying9 (fun j hj => by
    have hj' : j < k := by simpa using hj
    have e : (⟨B, 0, none⟩ : Addr).add j = ⟨B, j, none⟩ := by unfold Addr.add; split <;> simp_all
    rw [e, h.cell hj']
    simp [byF])
  rwa [hl] at h1
/-- one byte of a block is stored -/
theorem row_put {w : World} {B k i : Nat} {f : Nat → UInt8} (h : w.rowIs B 5 k (byF f)) (c : UInt8) {x : Int} (hx : x = (c.toNat : Int)) :
    (w.setCell ⟨B, i, none⟩ (.int .u8 x)).rowIs B 5 k (byF fun j => if j = i then c else f j) := by
  refine (h.set i _).congr fun j hj => ?_
  unfold byF
  dsimp only
  by_cases he : j = i
  · subst he; rw [if_pos rfl, if_pos rfl, hx]
  · rw [if_neg he, if_neg he]
/-- the bytes of a value -/
def valF (n k : Nat) (j : Nat) : UInt8 := if j < k then UInt8.ofNat ((n + j * n) % 251) else 0
def valueF (n : Nat) (j : Nat) : UInt8 := if j = 0 then UInt8.ofNat (1 + n % 255) else valF n 16 j
def valueL (n : Nat) : List UInt8 := (List.range 16).map (valueF n)
theorem val_next {w : World} {B i n : Nat} (h : w.rowIs B 5 16 (byF (valF n i))) {x : Int} (hx : x = ((UInt8.ofNat ((n + i * n) % 251)).toNat : Int)) :
    (w.setCell ⟨B, i, none⟩ (.int .u8 x)).rowIs B 5 16 (byF (valF n (i + 1))) := by
  refine (row_put h _ hx).congr fun j hj => ?_
  unfold byF valF
  dsimp only
  by_cases he : j = i
  · subst he; rw [if_pos rfl, if_pos (by omega)]
  · rw [if_neg he]
    by_cases h1 : j < i
    · rw [if_pos h1, if_pos (by omega)]
    · rw [if_neg h1, if_neg (by omega)]
theorem byte_small (m : Nat) (h : m < 256) : (m : Int) = ((UInt8.ofNat m).toNat : Int) := by
  rw [UInt8.toNat_ofNat', Nat.mod_eq_of_lt (by simpa using h)]
theorem value_length (n : Nat) : (valueL n).length = 16 := by simp [valueL]
set_option maxHeartbeats 400000 in
theorem value_any (n : Nat) (hn : n ≤ 100000) (w : World) :
    Calls Try.prog 51 #[.int .i64 n] w fun e w' => e = .returned (.string ⟨(valueL n).toArray⟩) ∧ Below w.heap.size w w' := by
  have hmk := fun w => run_make_row' (P := Try.prog) 42 5 (.int .u8 0) 1 Try.underlying42 info_byte rfl .i64 .i64 16 (by omega) (by omega) w
  simp only [Int.cast_ofNat_Int] at hmk
  have hm : ∀ (i : Nat), i < 16 → ∀ w, Calls Try.prog 16 #[.int .i64 ((n : Int) + (i : Int) * (n : Int)), .int .i64 251] w fun e w' => e = .returned (.int .i64 (((n + i * n) % 251 : Nat) : Int)) ∧ w = w' := fun i hi w => by
    have h := mod_any ((n : Int) + (i : Int) * (n : Int)) 251 (by decide) (by decide) w
    rwa [show ((n : Int) + (i : Int) * (n : Int)) % 251 = (((n + i * n) % 251 : Nat) : Int) by simp] at h
  have hm0 : ∀ w, Calls Try.prog 16 #[.int .i64 (n : Int), .int .i64 255] w fun e w' => e = .returned (.int .i64 ((n % 255 : Nat) : Int)) ∧ w = w' := fun w => by
    have h := mod_any (n : Int) 255 (by decide) (by decide) w
    rwa [show (n : Int) % 255 = ((n % 255 : Nat) : Int) by simp] at h
  have HM := Lib.hid hm
  have HM0 := Lib.hid hm0
  clear hm hm0
  go_enter Try.func51, Try.ntmps51
  go_wp2
  clear hmk
  go_loopw [4] (fun b wr => ∃ i : Nat, b = .int .i64 i ∧ i ≤ 16 ∧ wr.rowIs w.heap.size 5 16 (byF (valF n i)) ∧ Below w.heap.size w wr) (fun b _ => 16 - (intOf b).toNat)
  case atStart => exact ⟨0, rfl, by omega, (World.rowIs_made _ _ _ _).congr (by simp [byF, valF]), (Below.refl _ _).alloc (Nat.le_refl _) _⟩
  case round =>
    obtain ⟨i, rfl, hi, hrow, hb⟩ := hrel
    by_cases hlt : i < 16
    · have hc := hrow.cell hlt
      have hf := hrow.frozen i
      have hx : ((n : Int) + (i : Int) * (n : Int)) % 251 = ((UInt8.ofNat ((n + i * n) % 251)).toNat : Int) := by rw [← byte_small _ (by omega)]; simp
      have hnx := Lib.hid (val_next hrow hx)
      have hw : wrap64 ((n : Int) + wrap64 ((i : Int) * (n : Int))) = (n : Int) + (i : Int) * (n : Int) := by
        have h1 : (i : Int) * (n : Int) ≤ 16 * 100000 := by
          have h2 : i * n ≤ 16 * 100000 := Nat.mul_le_mul (by omega) hn
          have h3 : ((i * n : Nat) : Int) ≤ ((16 * 100000 : Nat) : Int) := Int.ofNat_le.2 h2
          simpa using h3
        have h4 : (0 : Int) ≤ (i : Int) * (n : Int) := Int.mul_nonneg (by omega) (by omega)
        unfold wrap64
        omega
      have hmi := HM.out i hlt
      rw [← hw] at hmi
      have HMi := Lib.hid hmi
      clear hmi hw
      clear hrow hx
      go_wp2_with (go_at_call 16; ((with_reducible refine (HMi.out _).mono ?_); rintro e w1 ⟨rfl, rfl⟩))
      go_roundw
      case rel => exact ⟨i + 1, by go_num, by omega, hnx.out, hb.setCell (Nat.le_refl _) _⟩
      case measure => simp [intOf]; omega
    · obtain rfl : i = 16 := by omega
      have hc := hrow.cell (i := 0) (by omega)
      have hf := hrow.frozen 0
      have hx : 1 + (n : Int) % 255 = ((UInt8.ofNat (1 + n % 255)).toNat : Int) := by rw [← byte_small _ (by omega)]; simp
      have hnx := row_put hrow (i := 0) _ hx
      have hcv := conv_row hnx
      have hL : (List.range 16).map (fun j => if j = 0 then UInt8.ofNat (1 + n % 255) else valF n 16 j) = valueL n := rfl
      rw [hL] at hcv
      clear hrow hx hnx hL
      generalize hZ : (⟨(valueL n).toArray⟩ : ByteArray) = Z at hcv
      have HZ := Lib.hid hZ
      clear hZ
      go_wp2_with (go_at_call 16; ((with_reducible refine (HM0.out _).mono ?_); rintro e w1 ⟨rfl, rfl⟩))
      go_ret
      exact ⟨by rw [HZ.out]; rfl, hb.setCell (Nat.le_refl _) _⟩
end Go.Proofs.Ytlplomofgbmgaaa

/- The walk of the program's function that makes the table: every cell is the sum of its own byte. No condition. -/
namespace Go.Proofs.Ytlplomofgbmgaaa
open Go.RowKit

theorem oneCells {cs : Array Value} (hs : cs.size = 256) (h : ∀ j, j < 256 → cs[j]? = some (.int .u32 (CrcMath.tab j : Nat))) : cs.all (·.oneCell') = true := by
  rw [Array.all_eq_true]
  intro j hj
  have h1 := h j (by omega)
  rw [Array.getElem?_eq_getElem hj] at h1
  rw [Option.some.inj h1]; rfl

end Go.Proofs.Ytlplomofgbmgaaa

/- The walks of the program's checksum, continued and at once: for any bytes the result is the plain arithmetic's. The bytes are at most as many as any memory holds. -/
namespace Go.Proofs.Ytlplomofgbmgaaa
open Go.RowKit

theorem wpList_store_new {P : Program} {ops : Array Oper} {rest : List Oper} {o : Oper} {a : Act} {w : World} {Q : Exit → Act → World → Prop} (hgd : o.guard = none) (ty : TypeId) (x y : Operand) (ho : o.op = .store ty x y)
    (g : Nat) (cells : Array Value) (hx : a.eval x = .pointer (some ⟨g, 0, none⟩)) (hy : a.eval y = .agg cells)
    (t : TypeId) (old : Array Value) (hg : w.heap[g]? = some (.cells old t (0, 0))) (hi : (P.info? ty).map (·.size) = some cells.size)
    (hold : old.size = cells.size) (h1 : cells.all (·.oneCell') = true)
    (h : ∀ w2 : World, w2.heap[g]? = some (.cells cells t (0, 0)) → Below g w w2 → wpList P ops Q rest (a.put o.dst undef) w2) : wpList P ops Q (o :: rest) a w :=
  wpList_store_row hgd ty x y ho g cells hx hy t old hg hi hold h1 (h _ (setRow_heap w g old cells t (0, 0) hg) (below_setRow (Below.refl _ _) (Nat.le_refl _) _))

theorem step_idx (X c : Nat) (hc : c < 256) : bits .xor .u8 ((X : Int) % 256) (c : Int) = ((X % 256 ^^^ c : Nat) : Int) := by
  have := u8_xor_nat (X % 256) c (Nat.mod_lt _ (by decide)) hc
  simpa using this
theorem step_val (X c : Nat) (hX : X < 4294967296) (hc : c < 256) : bits .xor .u32 ((X : Int) / 256) ((CrcMath.tab (X % 256 ^^^ c) : Nat) : Int) = (CrcMath.shn 8 (X ^^^ c) : Nat) := by
  have := u32_xor_nat (X / 256) (CrcMath.tab (X % 256 ^^^ c)) (by omega) (CrcMath.shn_lt 8 _ (Nat.lt_trans (CrcMath.idx_lt X c hc) (by decide)))
  rw [CrcMath.step_tab, Nat.shiftRight_eq_div_pow]
  simpa using this
theorem below_add {w w1 w2 : World} {o : Obj} (h : Below w.heap.size w w1) (k : Below w1.heap.size (w1.alloc o) w2) : Below w.heap.size w w2 :=
  (h.alloc h.size o).trans (k.mono h.size)

end Go.Proofs.Ytlplomofgbmgaaa

/- The walks of the checksum of bytes from 0 on: the program's and the document's own, for any bytes. -/
namespace Go.Proofs.Ytlplomofgbmgaaa
open Go.RowKit

set_option maxHeartbeats 400000 in
theorem refsum_any (s : ByteArray) (hs : s.size ≤ maxLen) (w : World) :
    Calls Try.prog 64 #[.string s] w fun e w' => e = .returned (.int .u32 (CrcMath.crc 0 s.data.toList : Nat)) ∧ w = w' := by
  go_enter Try.func64, Try.ntmps64
  go_wp2_with (go_at_call 66; refine (ref_any 0 s (by decide) hs _).mono ?_; rintro e w1 ⟨rfl, rfl⟩)
  go_ret
  exact ⟨rfl, rfl⟩
end Go.Proofs.Ytlplomofgbmgaaa

/- A region that leaves its order open, walked by a plan in which two operations may come up at one time. Every law holds for any program. -/
namespace Go.Proofs.Ytlplomofgbmgaaa.Tree
open Go.RowKit

/-- A plan: one that may be taken first, one that alone may come up, and two of which either may. -/
inductive T (α : Type) where
  | done
  | take (k : α) (r : T α)
  | only (k : α) (r : T α)
  | fork (k : α) (r : T α) (l : α) (s : T α)
def T.map {α β : Type} (f : α → β) : T α → T β
  | .done => .done
  | .take k r => .take (f k) (r.map f)
  | .only k r => .only (f k) (r.map f)
  | .fork k r l s => .fork (f k) (r.map f) (f l) (s.map f)
def T.size {α : Type} : T α → Nat
  | .done => 0
  | .take _ r => r.size + 1
  | .only _ r => r.size + 1
  | .fork _ r _ _ => r.size + 1
def good (md : Region.Mode) (ops : Array Oper) : T Nat → Array Bool → Bool
  | .done, listed => (Region.ready md ops listed).isEmpty
  | .take k r, listed => (Region.ready md ops listed).contains k && Region.free md ops listed k && good md ops r (listed.setIfInBounds k true)
  | .only k r, listed => (Region.ready md ops listed == [k]) && good md ops r (listed.setIfInBounds k true)
  | .fork k r l s, listed => (Region.ready md ops listed == [k, l]) && (r.size == s.size) && good md ops r (listed.setIfInBounds k true) && good md ops s (listed.setIfInBounds l true)
def goes (P : Program) (ops : Array Oper) (Q : Exit → Act → World → Prop) (S : World → Prop) : T (Option Oper) → Act → World → Prop
  | .done, a, w => Q .normal a w
  | .take none _, _, _ => False
  | .take (some o) r, a, w => ∃ v, YieldsIf P ops S o v a ∧ goes P ops Q S r (a.put o.dst v) w
  | .only none _, _, _ => False
  | .only (some o) r, a, w => ∃ R : Act → World → Prop, (∀ a' w', R a' w' → S w' ∧ goes P ops Q S r a' w') ∧ (if Region.wanted o (yielded ops a.tmps) then o.wp P a w R Q else R (a.put o.dst undef) w)
  | .fork none _ _ _, _, _ => False
  | .fork _ _ none _, _, _ => False
  | .fork (some o) r (some p) s, a, w => (∃ R : Act → World → Prop, (∀ a' w', R a' w' → S w' ∧ goes P ops Q S r a' w') ∧ (if Region.wanted o (yielded ops a.tmps) then o.wp P a w R Q else R (a.put o.dst undef) w)) ∧
      (∃ R : Act → World → Prop, (∀ a' w', R a' w' → S w' ∧ goes P ops Q S s a' w') ∧ (if Region.wanted p (yielded ops a.tmps) then p.wp P a w R Q else R (a.put p.dst undef) w))
section
variable {P : Program} {ops : Array Oper} {Q : Exit → Act → World → Prop} {S : World → Prop}
theorem one {i : Nat} {o : Oper} {a : Act} {w : World} {n : Nat} {listed : Array Bool} {G : Act → World → Prop} (ho : ops[i]? = some o)
    (h : ∃ R : Act → World → Prop, (∀ a' w', R a' w' → S w' ∧ G a' w') ∧ (if Region.wanted o (yielded ops a.tmps) then o.wp P a w R Q else R (a.put o.dst undef) w))
    (hG : ∀ a' w', S w' → G a' w' → wpAnyH P .any ops Q S n (listed.setIfInBounds i true) a' w') :
    wpOp P ops Q i (fun a' w' => S w' ∧ wpAnyH P .any ops Q S n (listed.setIfInBounds i true) a' w') a w := by
  obtain ⟨R, hR, hr⟩ := h
  have hw : wpOp P ops Q i R a w := by
    unfold wpOp
    simp only [ho]
    split
    · rename_i hw
      rw [if_pos hw] at hr
      exact .inl hr
    · rename_i hw
      rw [if_neg hw] at hr
      exact hr
  exact wpOp_mono (fun a' w' h' => ⟨(hR a' w' h').1, hG a' w' (hR a' w' h').1 (hR a' w' h').2⟩) hw
theorem held_of_goes (hs : Region.noSelect ops = true) (hQ : ∀ c a d v w, Q (.panic c) (Act.put a d v) w → Q (.panic c) a w) :
    ∀ (plan : T Nat) (listed : Array Bool) (a : Act) (w : World), good .any ops plan listed = true → S w →
      goes P ops Q S (plan.map fun p => ops[p]?) a w → wpAnyH P .any ops Q S plan.size listed a w
  | .done, listed, a, w, hB, _, h => by
    refine wpAnyH_done ?_ h 0
    simpa [good] using hB
  | .take k r, listed, a, w, hB, hS, h => by
    simp only [good, Bool.and_eq_true] at hB
    simp only [T.map] at h
    cases ho : ops[k]? with
    | none => rw [ho] at h; exact h.elim
    | some o =>
      rw [ho] at h
      obtain ⟨v, hy, hr⟩ := h
      exact wpAnyH_take ho hs hB.1.2 hB.1.1 (fun c a w => hQ c a o.dst v w) hy hS (held_of_goes hs hQ r _ _ _ hB.2 hS hr)
  | .only k r, listed, a, w, hB, hS, h => by
    simp only [good, Bool.and_eq_true, beq_iff_eq] at hB
    simp only [T.map] at h
    refine wpAnyH_all hB.1 (by simp) fun i hi => ?_
    have hik : i = k := by simpa using hi
    subst hik
    cases ho : ops[i]? with
    | none => rw [ho] at h; exact h.elim
    | some o =>
      rw [ho] at h
      exact one ho h fun a' w' hS' hg => held_of_goes hs hQ r _ _ _ hB.2 hS' hg
  | .fork k r l s, listed, a, w, hB, hS, h => by
    simp only [good, Bool.and_eq_true, beq_iff_eq] at hB
    simp only [T.map] at h
    refine wpAnyH_all hB.1.1.1 (by simp) fun i hi => ?_
    cases ho : ops[k]? with
    | none => rw [ho] at h; exact h.elim
    | some o =>
      cases hp : ops[l]? with
      | none => rw [ho, hp] at h; exact h.elim
      | some p =>
        rw [ho, hp] at h
        have hik : i = k ∨ i = l := by simpa using hi
        rcases hik with rfl | rfl
        · exact one ho h.1 fun a' w' hS' hg => held_of_goes hs hQ r _ _ _ hB.1.2 hS' hg
        · have := one (n := s.size) (listed := listed) hp h.2 fun a' w' hS' hg => held_of_goes hs hQ s _ _ _ hB.2 hS' hg
          rw [← hB.1.1.2] at this
          exact this
/-- THE BEGINNING: S is what the region keeps to. -/
theorem start {id : Nat} {a : Act} {w : World} (S : World → Prop) (plan : T Nat) (hm : P.follows .mixedOrders = true) (hs : Region.noSelect ops = true) (hl : plan.size = ops.size)
    (hB : good .any ops plan (Array.replicate ops.size false) = true) (hS : S w.drew)
    (h : goes P ops (NoPanic Q) S (plan.map fun p => ops[p]?) a w.drew) : (Code.region id ops true).wp P Q a w :=
  wp_region_noPanic (wp_region_held hm (by
    have := held_of_goes (P := P) (Q := NoPanic Q) (S := S) hs (fun _ _ _ _ _ h => h) plan (Array.replicate ops.size false) a w.drew hB hS h
    rw [hl] at this
    exact this))
/-- THE END. -/
theorem ends {Q : Exit → Act → World → Prop} {a : Act} {w : World} (h : Q .normal a w) : goes P ops (NoPanic Q) S .done a w := h
theorem take {o : Oper} {r : T (Option Oper)} {a : Act} {w : World} (v : Value) (hw : Region.wanted o (yielded ops a.tmps) = true) (hv : ∀ w, S w → (execOp a.eval o).run P w = .ok (.value v) w)
    (h : goes P ops Q S r (a.put o.dst v) w) : goes P ops Q S (.take (some o) r) a w := ⟨v, .inl ⟨hw, hv⟩, h⟩
theorem carryR {o : Oper} {r : T (Option Oper)} {a : Act} {w : World} (hw : Region.wanted o (yielded ops a.tmps) = true)
    (h : o.wp P a w (fun a' w' => S w' ∧ goes P ops Q S r a' w') Q) : ∃ R : Act → World → Prop, (∀ a' w', R a' w' → S w' ∧ goes P ops Q S r a' w') ∧ (if Region.wanted o (yielded ops a.tmps) then o.wp P a w R Q else R (a.put o.dst undef) w) :=
  ⟨fun a' w' => S w' ∧ goes P ops Q S r a' w', fun _ _ h => h, by rw [if_pos hw]; exact h⟩
theorem only {o : Oper} {r : T (Option Oper)} {a : Act} {w : World} (hw : Region.wanted o (yielded ops a.tmps) = true)
    (h : o.wp P a w (fun a' w' => S w' ∧ goes P ops Q S r a' w') Q) : goes P ops Q S (.only (some o) r) a w := carryR hw h
theorem fork {o p : Oper} {r s : T (Option Oper)} {a : Act} {w : World} (hw : Region.wanted o (yielded ops a.tmps) = true) (hv : Region.wanted p (yielded ops a.tmps) = true)
    (h : o.wp P a w (fun a' w' => S w' ∧ goes P ops Q S r a' w') Q) (k : p.wp P a w (fun a' w' => S w' ∧ goes P ops Q S s a' w') Q) : goes P ops Q S (.fork (some o) r (some p) s) a w := ⟨carryR hw h, carryR hv k⟩
/-- A call of a Go function, by its contract. -/
theorem wp_call {o : Oper} {a : Act} {w : World} {K : Act → World → Prop} (f : FuncId) (vs : Array Value) {R : Ending → World → Prop}
    (ho : (execOp a.eval o).run P w = .ok (.enter f vs) w) (hc : Calls P f vs w R)
    (h : ∀ e w', R e w' → ∃ v, e = .returned v ∧ K (a.put o.dst v) w') : o.wp P a w K Q := by
  unfold Oper.wp
  rw [ho]
  simp only [Oper.upon]
  refine hc.mono fun e w' he => ?_
  obtain ⟨v, rfl, hg⟩ := h e w' he
  exact hg
/-- One that makes memory. -/
theorem wp_make {o : Oper} {a : Act} {w : World} {K : Act → World → Prop} (v : Value) (w1 : World)
    (ho : (execOp a.eval o).run P w = .ok (.value v) w1) (h : K (a.put o.dst v) w1) : o.wp P a w K Q := by
  unfold Oper.wp
  rw [ho]
  exact h
end
end Go.Proofs.Ytlplomofgbmgaaa.Tree

/- The walks of Get: the program's and the document's own, for any bytes, any place and any size. -/
namespace Go.Proofs.Ytlplomofgbmgaaa
open Go.RowKit

theorem bv_small (a : Nat) (h : a < 9223372036854775808) : (BitVec.ofInt 64 (a : Int)).toNat = a := by
  rw [BitVec.ofInt_natCast, BitVec.toNat_ofNat, Nat.mod_eq_of_lt (by omega)]
theorem or_small (a b : Nat) (ha : a < 9223372036854775808) (hb : b < 9223372036854775808) : bits .or .i64 (a : Int) (b : Int) = ((a ||| b : Nat) : Int) := by
  have h : a ||| b < 2 ^ 63 := Nat.or_lt_two_pow (by omega) (by omega)
  show IntKind.i64.wrap ((BitVec.ofInt 64 (a : Int) ||| BitVec.ofInt 64 (b : Int)).toNat : Int) = _
  rw [BitVec.toNat_or, bv_small a ha, bv_small b hb, IntKind.wrap_i64]
  omega
theorem wrap_small (a : Nat) (h : a < 9223372036854775808) : wrap64 (a : Int) = (a : Int) := by unfold wrap64; omega
theorem get_val (X c i : Nat) (hX : X < 256 ^ i) (hi : i < 7) (hc : c < 256) :
    bits .or .i64 (X : Int) (wrap64 (wrap64 (c : Int) * 2 ^ (8 * i))) = ((X + 256 ^ i * c : Nat) : Int) := by
  have h1 := CodecMath.pow_le (i + 1) (by omega)
  have h2 : c * 256 ^ i < 256 ^ (i + 1) := by
    rw [Nat.pow_succ, Nat.mul_comm]
    exact Nat.mul_lt_mul_of_pos_left hc (Nat.pow_pos (by decide))
  have h3 : 256 ^ i ≤ 256 ^ (i + 1) := Nat.pow_le_pow_right (by decide) (by omega)
  have h4 := CodecMath.or_high X c (8 * i) (by rw [CodecMath.pow_two]; exact hX)
  rw [CodecMath.pow_two] at h4
  have e : (2 : Int) ^ (8 * i) = ((256 ^ i : Nat) : Int) := by rw [← CodecMath.pow_two]; simp
  rw [wrap_small c (by omega), e, ← Int.natCast_mul]
  generalize 256 ^ (i + 1) = Q at h1 h2 h3
  rw [wrap_small (c * 256 ^ i) (by omega), or_small X _ (by omega) (by omega), h4, Nat.mul_comm c]
theorem refGet_val (X c : Nat) (hX : X < 281474976710656) (hc : c < 256) :
    bits .or .i64 (wrap64 ((X : Int) * 256)) (wrap64 (c : Int)) = ((c + 256 * X : Nat) : Int) := by
  have h4 := CodecMath.or_high c X 8 (by omega)
  have e : (X : Int) * 256 = ((X * 256 : Nat) : Int) := by omega
  rw [wrap_small c (by omega), e, wrap_small (X * 256) (by omega), or_small (X * 256) c (by omega) (by omega), Nat.or_comm]
  have h5 : c ||| X * 256 = c + X * 256 := h4
  rw [h5, Nat.mul_comm X]
theorem num_take (s : ByteArray) (a i : Nat) (h : a + i < s.size) : CodecMath.num ((s.data.toList.drop a).take (i + 1)) = CodecMath.num ((s.data.toList.drop a).take i) + 256 ^ i * s[a + i].toNat := by
  have hl : s.data.toList.length = s.size := by simp
  rw [List.take_succ_eq_append_getElem (by rw [List.length_drop]; omega), CodecMath.num_append, List.length_take_of_le (by rw [List.length_drop]; omega), List.getElem_drop]
  simp only [CodecMath.num]
  rfl
theorem num_drop (s : ByteArray) (a i k : Nat) (hi : i < k) (h : a + i < s.size) : CodecMath.num ((s.data.toList.drop (a + i)).take (k - i)) = s[a + i].toNat + 256 * CodecMath.num ((s.data.toList.drop (a + (i + 1))).take (k - (i + 1))) := by
  have hl : s.data.toList.length = s.size := by simp
  rw [List.drop_eq_getElem_cons (by omega), show k - i = (k - (i + 1)) + 1 by omega, List.take_succ_cons]
  rfl
theorem num_take_lt (l : List UInt8) (a i : Nat) : CodecMath.num ((l.drop a).take i) < 256 ^ i :=
  Nat.lt_of_lt_of_le (CodecMath.num_lt _) (Nat.pow_le_pow_right (by decide) (List.length_take_le _ _))
theorem val_i64 {a b : Int} (h : a = b) : Value.int .i64 a = .int .i64 b := by rw [h]

theorem okArg_true {a k : Int} (h : CodecMath.okArg a k = true) : 1 ≤ k ∧ k ≤ 7 ∧ 0 ≤ a := by
  simp only [CodecMath.okArg, Bool.and_eq_true, decide_eq_true_eq] at h
  omega
theorem getE_no {l : List UInt8} {a k : Int} (h : CodecMath.okArg a k = false) : CodecMath.getE l a k = 1 ∧ CodecMath.getN l a k = 0 := by simp [CodecMath.getE, CodecMath.getN, h]
theorem getE_short {l : List UInt8} {a k : Int} (h : CodecMath.okArg a k = true) (h2 : CodecMath.okAt l.length a k = false) : CodecMath.getE l a k = 2 ∧ CodecMath.getN l a k = 0 := by simp [CodecMath.getE, CodecMath.getN, h, h2]
theorem getE_ok {l : List UInt8} {a k : Int} (h : CodecMath.okArg a k = true) (h2 : CodecMath.okAt l.length a k = true) : CodecMath.getE l a k = 0 ∧ CodecMath.getN l a k = (CodecMath.num ((l.drop a.toNat).take k.toNat) : Int) := by simp [CodecMath.getE, CodecMath.getN, h, h2]
end Go.Proofs.Ytlplomofgbmgaaa
