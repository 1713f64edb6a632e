/- HistoryOrder: Before is a strict order on the operations of a right history, and the beginnings of a right history are right. No condition. -/
import Derived.Test.YtkamadeekkccgaaPack12
import Derived.Test.YtkamadeekkccgaaRows
import Derived.WalkKit
import Derived.ProofKit
import Derived.Outline
import Derived.Lib.Hide
import Derived.Laws.IdiomStrings
import Derived.Deep.OwnRows
import Derived.Below
import Derived.Deep.DeepCutAuto
import Derived.SliceStrings
import Derived.OpenShut
import Derived.ShutString
import Derived.ChangeOld
import Derived.Carry

/- A list that is written out. -/
namespace Go.Proofs.Ytkamadeekkccgaa.Rws
open Ents
theorem lit_list {α : Type} {R : Row α} {w : World} {F : Nat → Prop} {g : Nat} {L : List α} {fr : Nat × Nat} (h : w.heap[g]? = some (.cells (R.all L).toArray R.et fr)) (hF : F g) (hn : L.length ≤ maxLen) : TList R w F (some ⟨g, 0, none⟩) L.length L.length L := by
  refine .inr ⟨_, rfl, Nat.le_refl _, hn, rfl, e_lt h, hF, fun j u hu => ?_⟩
  rw [Addr.add_lit, Nat.zero_add]
  exact (cell_of_row w g j _ _ _ h).trans (by rw [List.getElem?_toArray]; exact hu)
end Go.Proofs.Ytkamadeekkccgaa.Rws
namespace Go.Proofs.Ytkamadeekkccgaa.Ents
open Go.RowKit Plan Rws
theorem lit_off (x : Addr) (i : Nat) (hi : 0 < i) : x.add i = ⟨x.block, x.off + i, none⟩ := by
  obtain ⟨j, rfl⟩ : ∃ j, i = j + 1 := ⟨i - 1, by omega⟩
  have := ent_add_off x 0 j
  unfold Addr.add
  simp
end Go.Proofs.Ytkamadeekkccgaa.Ents

/- The walk of the law's sanity check of histories. -/
namespace Go.Proofs.Ytkamadeekkccgaa.HisMath
def awL : List Ev := [⟨false, 0, 1, 3, 0, ⟨#[]⟩, 0, ⟨#[]⟩⟩, ⟨true, 0, 1, 3, 0, ⟨#[]⟩, 0, ⟨#[]⟩⟩, ⟨false, 0, 2, 3, 0, ⟨#[]⟩, 0, ⟨#[]⟩⟩]
theorem aw_right : Right awL := by
  have h1 : Right ([] ++ [⟨false, 0, 1, 3, 0, ⟨#[]⟩, 0, ⟨#[]⟩⟩]) := .inv .nil ⟨rfl, by decide, by decide, by decide, by simp, rfl, rfl⟩
  have h2 : Right (([] ++ [⟨false, 0, 1, 3, 0, ⟨#[]⟩, 0, ⟨#[]⟩⟩]) ++ [⟨true, 0, 1, 3, 0, ⟨#[]⟩, 0, ⟨#[]⟩⟩]) := .ret h1 ⟨rfl, by decide, by decide, by decide, ⟨⟨false, 0, 1, 3, 0, ⟨#[]⟩, 0, ⟨#[]⟩⟩, by simp, rfl, rfl, rfl, rfl, rfl, rfl⟩, (fun y hy hr => by
    simp only [List.nil_append, List.mem_singleton] at hy
    subst hy
    cases hr), rfl⟩
  exact .inv h2 ⟨rfl, by decide, by decide, by decide, (fun y hy => by
    simp only [List.nil_append, List.cons_append, List.mem_cons, List.not_mem_nil, or_false] at hy
    rcases hy with rfl | rfl <;> decide), rfl, rfl⟩
theorem aw_check : checkE 1 awL = 0 := check_right aw_right (by decide) (by decide) (by decide)
theorem aw_before : beforeB awL 1 2 = true ∧ beforeB awL 2 1 = false := ⟨by decide, by decide⟩
theorem aw_pend : pendE awL 3 = [2] := by decide
theorem aw_ops : (opsE awL 3).length = 2 := by rw [ops_right aw_right 3 (by decide), List.length_map]; rfl
end Go.Proofs.Ytkamadeekkccgaa.HisMath
namespace Go.Proofs.Ytkamadeekkccgaa.Ents
open Go.RowKit Plan HisMath Rws Env LayMath
set_option maxHeartbeats 8000000 in
set_option maxRecDepth 20000 in
theorem hisAwake_any (H : HistoryOk) (w : World) : Calls Try.prog 8 #[] w fun r w' => r = .returned (.bool true) ∧ Below w.heap.size w w' := by
  have K := ((((Env.start w).al (.cells #[.bool false, .int .i64 0, .int .i64 1, .int .i64 3, .int .i64 0, .string ⟨#[]⟩, .int .i64 0, .string ⟨#[]⟩] 36)).al (.cells #[.bool true, .int .i64 0, .int .i64 1, .int .i64 3, .int .i64 0, .string ⟨#[]⟩, .int .i64 0, .string ⟨#[]⟩] 36)).al (.cells #[.bool false, .int .i64 0, .int .i64 2, .int .i64 3, .int .i64 0, .string ⟨#[]⟩, .int .i64 0, .string ⟨#[]⟩] 36)).al (.cells #[.bool false, .int .i64 0, .int .i64 1, .int .i64 3, .int .i64 0, .string ⟨#[]⟩, .int .i64 0, .string ⟨#[]⟩, .bool true, .int .i64 0, .int .i64 1, .int .i64 3, .int .i64 0, .string ⟨#[]⟩, .int .i64 0, .string ⟨#[]⟩, .bool false, .int .i64 0, .int .i64 2, .int .i64 3, .int .i64 0, .string ⟨#[]⟩, .int .i64 0, .string ⟨#[]⟩] 36)
  have lC := lit_list (R := VR) (F := fun _ => True) (L := awL) (K.get 0 rfl) trivial (by decide)
  generalize hw0 : (((w.alloc (.cells #[.bool false, .int .i64 0, .int .i64 1, .int .i64 3, .int .i64 0, .string ⟨#[]⟩, .int .i64 0, .string ⟨#[]⟩] 36)).alloc (.cells #[.bool true, .int .i64 0, .int .i64 1, .int .i64 3, .int .i64 0, .string ⟨#[]⟩, .int .i64 0, .string ⟨#[]⟩] 36)).alloc (.cells #[.bool false, .int .i64 0, .int .i64 2, .int .i64 3, .int .i64 0, .string ⟨#[]⟩, .int .i64 0, .string ⟨#[]⟩] 36)).alloc (.cells #[.bool false, .int .i64 0, .int .i64 1, .int .i64 3, .int .i64 0, .string ⟨#[]⟩, .int .i64 0, .string ⟨#[]⟩, .bool true, .int .i64 0, .int .i64 1, .int .i64 3, .int .i64 0, .string ⟨#[]⟩, .int .i64 0, .string ⟨#[]⟩, .bool false, .int .i64 0, .int .i64 2, .int .i64 3, .int .i64 0, .string ⟨#[]⟩, .int .i64 0, .string ⟨#[]⟩] 36) = w0 at *
  have hw0h := Lib.hid hw0
  have HB0 := Lib.hid K.hb
  simp only [World.size_alloc] at lC
  change VList _ _ _ 3 3 _ at lC
  have H1 := Lib.hid (fun W (h : Below w0.heap.size w0 W) => H.check _ awL 1 _ 3 3 W (lC.same h) (by decide))
  have H2 := Lib.hid (fun W (h : Below w0.heap.size w0 W) => H.before _ awL _ 3 3 1 2 W (lC.same h) (by decide))
  have H3 := Lib.hid (fun W (h : Below w0.heap.size w0 W) => H.before _ awL _ 3 3 2 1 W (lC.same h) (by decide))
  have H5 := Lib.hid (fun W (h : Below w0.heap.size w0 W) => H.pending _ awL _ 3 3 W (lC.same h) (by decide))
  have H7 := Lib.hid (fun W (h : Below w0.heap.size w0 W) => H.operations _ awL _ 3 3 W (lC.same h) (by decide))
  rw [aw_check] at H1
  rw [aw_before.1] at H2
  rw [aw_before.2] at H3
  rw [aw_pend] at H5
  have HOL := Lib.hid aw_ops
  generalize opsE awL 3 = OL at *
  unfold PPost at H5
  unfold VPost at H7
  clear lC K hw0
  have hb := Below.refl w0.heap.size w0
  go_enter Try.func8, Try.ntmps8
  go_upto_region 7 with fail
  rw [hw0h.out]
  clear hw0h
  go_wp2_with (first
    | (go_at_call 16; ((with_reducible refine (H5.out _ hb).mono ?_); rintro r9 w9 ⟨pa, pm, pc, rfl, lp, h9⟩; replace hb := hb.trans (h9.mono hb.size); obtain rfl : pm = 1 := lp.length.symm; replace lp := lp.low; clear h9))
    | (go_at_call 14; ((with_reducible refine (H1.out _ hb).mono ?_); rintro r9 w9 ⟨rfl, h9⟩; replace hb := hb.trans (h9.mono hb.size); replace lp := lp.same h9; clear h9))
    | (go_at_call 13; ((with_reducible refine (H2.out _ hb).mono ?_); rintro r9 w9 ⟨rfl, h9⟩; replace hb := hb.trans (h9.mono hb.size); replace lp := lp.same h9; clear h9))
    | (go_at_call 13; ((with_reducible refine (H3.out _ hb).mono ?_); rintro r9 w9 ⟨rfl, h9⟩; replace hb := hb.trans (h9.mono hb.size); replace lp := lp.same h9; obtain ⟨x, y, hxa, hy, cx⟩ := ir_at lp 0 (by decide); subst hxa; obtain rfl : (2 : Int) = y := Option.some.inj hy; rw [Addr.add_zero'] at cx; clear h9))
    | (go_at_call 15; ((with_reducible refine (H7.out _ hb).mono ?_); rintro r9 w9 ⟨oa, om, oc, rfl, lo1, h9⟩; replace hb := hb.trans (h9.mono hb.size); obtain rfl : om = 2 := lo1.length.symm.trans HOL.out; clear h9)))
  go_ret
  exact ⟨rfl, HB0.out.trans (hb.mono HB0.out.size)⟩
end Go.Proofs.Ytkamadeekkccgaa.Ents

/- Numbers as bytes, the lowest byte first: the plain arithmetic. Every law holds for all numbers and lists. -/
namespace Go.Proofs.Ytkamadeekkccgaa.CodecMath

/-- byte i of n -/
def byteOf (n i : Nat) : UInt8 := UInt8.ofNat (n / 256 ^ i)
/-- the first k bytes of n -/
def bytes (n k : Nat) : List UInt8 := (List.range k).map (byteOf n)
/-- the number whose bytes these are -/
def num : List UInt8 → Nat
  | [] => 0
  | b :: l => b.toNat + 256 * num l

theorem bytes_length (n k : Nat) : (bytes n k).length = k := by simp [bytes]
theorem bytes_get (n k j : Nat) (h : j < (bytes n k).length) : (bytes n k)[j] = byteOf n j := by simp [bytes]
theorem byteOf_nat (n i : Nat) : (byteOf n i).toNat = n / 256 ^ i % 256 := by
  unfold byteOf; rw [UInt8.toNat_ofNat']
theorem pow_two (k : Nat) : 2 ^ (8 * k) = 256 ^ k := by rw [Nat.pow_mul]
theorem num_append (a b : List UInt8) : num (a ++ b) = num a + 256 ^ a.length * num b := by
  induction a with
  | nil => simp [num]
  | cons x a ih => simp only [List.cons_append, num, ih, List.length_cons, Nat.pow_succ]; rw [Nat.mul_add, ← Nat.mul_assoc, Nat.mul_comm 256 (256 ^ a.length), Nat.add_assoc]
theorem num_lt (l : List UInt8) : num l < 256 ^ l.length := by
  induction l with
  | nil => simp [num]
  | cons x l ih =>
    have := x.toNat_lt
    simp only [num, List.length_cons, Nat.pow_succ]
    omega
theorem bytes_succ (n k : Nat) : bytes n (k + 1) = bytes n k ++ [byteOf n k] := by simp [bytes, List.range_succ]
theorem num_bytes_mod (n k : Nat) : num (bytes n k) = n % 256 ^ k := by
  induction k with
  | zero => simp [bytes, num, Nat.mod_one]
  | succ k ih =>
    rw [bytes_succ, num_append, ih, bytes_length]
    simp only [num, byteOf_nat]
    rw [Nat.pow_succ, Nat.mod_mul, Nat.mul_zero, Nat.add_zero]
theorem num_bytes (n k : Nat) (h : n < 256 ^ k) : num (bytes n k) = n := by rw [num_bytes_mod, Nat.mod_eq_of_lt h]
theorem or_high (x c i : Nat) (h : x < 2 ^ i) : x ||| c * 2 ^ i = x + c * 2 ^ i := by
  have := Nat.two_pow_add_eq_or_of_lt h c
  rw [Nat.mul_comm c, Nat.or_comm, ← this, Nat.add_comm]

/-- the document's Put: whether it gives bytes -/
def okPut (n k : Int) : Bool := decide (1 ≤ k) && decide (k ≤ 7) && decide (0 ≤ n) && decide (n < ((256 ^ k.toNat : Nat) : Int))
def putL (n k : Int) : List UInt8 := if okPut n k = true then bytes n.toNat k.toNat else []
def putE (n k : Int) : Int := if okPut n k = true then 0 else 1
theorem putL_ok {n k : Int} (h : okPut n k = true) : putL n k = bytes n.toNat k.toNat := if_pos h
theorem putE_ok {n k : Int} (h : okPut n k = true) : putE n k = 0 := if_pos h
theorem putL_no {n k : Int} (h : okPut n k = false) : putL n k = [] := if_neg (by simp [h])
theorem putE_no {n k : Int} (h : okPut n k = false) : putE n k = 1 := if_neg (by simp [h])

/-- the document's Get -/
def okAt (n : Nat) (at' k : Int) : Bool := decide (at' + k ≤ n)
def okArg (at' k : Int) : Bool := decide (1 ≤ k) && decide (k ≤ 7) && decide (0 ≤ at')
def getN (l : List UInt8) (at' k : Int) : Int := if okArg at' k = true ∧ okAt l.length at' k = true then (num ((l.drop at'.toNat).take k.toNat) : Int) else 0
def getE (l : List UInt8) (at' k : Int) : Int := if okArg at' k = true then (if okAt l.length at' k = true then 0 else 2) else 1

theorem pow_le (k : Nat) (h7 : k ≤ 7) : 256 ^ k ≤ 72057594037927936 := by
  have : 256 ^ k ≤ 256 ^ 7 := Nat.pow_le_pow_right (by decide) h7
  simpa using this
theorem pow_le6 (k : Nat) (h6 : k ≤ 6) : 256 ^ k ≤ 281474976710656 := by
  have : 256 ^ k ≤ 256 ^ 6 := Nat.pow_le_pow_right (by decide) h6
  simpa using this
theorem pow_lt {i k : Nat} (h : i < k) : 256 ^ (i + 1) ≤ 256 ^ k := Nat.pow_le_pow_right (by decide) h

end Go.Proofs.Ytkamadeekkccgaa.CodecMath

/- Walks of the small functions beside the codec: the size test. -/
namespace Go.Proofs.Ytkamadeekkccgaa
open Go.RowKit

end Go.Proofs.Ytkamadeekkccgaa

/- The walks of Put: the program's and the document's own, for any number and any size. -/
namespace Go.Proofs.Ytkamadeekkccgaa
open Go.RowKit

theorem info_byte : (Try.prog.info? 5).map (fun i => (i.zero, i.size, i.bytes)) = some (some (.int .u8 0), 1, 1) := by kernel_rfl
theorem wrap_pow (k : Nat) (h7 : k ≤ 7) : wrap64 (2 ^ (8 * k)) = ((256 ^ k : Nat) : Int) := by
  have h := CodecMath.pow_le k h7
  have e : (2 : Int) ^ (8 * k) = ((256 ^ k : Nat) : Int) := by rw [← CodecMath.pow_two]; simp
  rw [e]
  generalize 256 ^ k = p at h ⊢
  unfold wrap64; omega
theorem byte_val (n i : Nat) : (n : Int) / 2 ^ (8 * i) % 256 = ((CodecMath.byteOf n i).toNat : Int) := by
  rw [CodecMath.byteOf_nat]
  have e : (2 : Int) ^ (8 * i) = ((256 ^ i : Nat) : Int) := by rw [← CodecMath.pow_two]; simp
  rw [e]; simp
/-- a block of k bytes of which the first i are those of n -/
def rowF (n i j : Nat) : Value := if j < i then .int .u8 ((CodecMath.byteOf n j).toNat : Int) else .int .u8 0
theorem row_next {w : World} {B k i n : Nat} (h : w.rowIs B 5 k (rowF n i)) {x : Int} (hx : x = ((CodecMath.byteOf n i).toNat : Int)) : (w.setCell ⟨B, i, none⟩ (.int .u8 x)).rowIs B 5 k (rowF n (i + 1)) := by
  refine (h.set i _).congr fun j hj => ?_
  unfold rowF
  by_cases he : j = i
  · subst he; rw [if_pos rfl, if_pos (by omega), hx]
  · rw [if_neg he]
    by_cases h1 : j < i
    · rw [if_pos h1, if_pos (by omega)]
    · rw [if_neg h1, if_neg (by omega)]
theorem conv_bytes {w : World} {B k n : Nat} (h : w.rowIs B 5 k (rowF n k)) :
    (convert 59 9 (.slice (some ⟨B, 0, none⟩) k k)).run Try.prog w = .ok (.string ⟨(CodecMath.bytes n k).toArray⟩) w := by
  have h1 := run_convert_bytes_back (P := Try.prog) w 59 9 5 ⟨B, 0, none⟩ k (CodecMath.bytes n k) Try.underlying59 Try.underlying5 Try.underlying9 (fun j hj => by
    have hj' : j < k := by simpa [CodecMath.bytes_length] using hj
    have e : (⟨B, 0, none⟩ : Addr).add j = ⟨B, j, none⟩ := by unfold Addr.add; split <;> simp_all
    rw [e, h.cell hj', CodecMath.bytes_get, rowF, if_pos hj'])
  rwa [CodecMath.bytes_length] at h1

/-- arguments that have no bytes -/
theorem put_cases {n k : Int} (h : CodecMath.okPut n k = false) : (k < 1 ∨ 7 < k) ∨ (1 ≤ k ∧ k ≤ 7 ∧ n < 0) ∨ (1 ≤ k ∧ k ≤ 7 ∧ 0 ≤ n ∧ ((256 ^ k.toNat : Nat) : Int) ≤ n) := by
  have h' : ¬ (((1 ≤ k ∧ k ≤ 7) ∧ 0 ≤ n) ∧ n < ((256 ^ k.toNat : Nat) : Int)) := by
    intro hh
    simp only [CodecMath.okPut] at h
    rw [decide_eq_true hh.1.1.1, decide_eq_true hh.1.1.2, decide_eq_true hh.1.2, decide_eq_true hh.2] at h
    cases h
  generalize ((256 ^ k.toNat : Nat) : Int) = P at h' ⊢
  omega
theorem okPut_nat {n k : Int} (h : CodecMath.okPut n k = true) : ∃ n' k' : Nat, n = n' ∧ k = k' ∧ 1 ≤ k' ∧ k' ≤ 7 ∧ n' < 256 ^ k' := by
  simp only [CodecMath.okPut, Bool.and_eq_true, decide_eq_true_eq] at h
  obtain ⟨⟨⟨h1, h7⟩, h0⟩, hn⟩ := h
  refine ⟨n.toNat, k.toNat, by omega, by omega, by omega, by omega, ?_⟩
  generalize 256 ^ k.toNat = P at hn ⊢
  omega
end Go.Proofs.Ytkamadeekkccgaa

/- The walk of the maker's value of a block: sixteen bytes out of a number. -/
namespace Go.Proofs.Ytkamadeekkccgaa
open Go.RowKit

/-- a block's cells as bytes -/
def byF (f : Nat → UInt8) (j : Nat) : Value := .int .u8 ((f j).toNat : Int)
/-- the string of a block of bytes -/
theorem conv_row {w : World} {B k : Nat} {f : Nat → UInt8} (h : w.rowIs B 5 k (byF f)) :
    (convert 59 9 (.slice (some ⟨B, 0, none⟩) k k)).run Try.prog w = .ok (.string ⟨((List.range k).map f).toArray⟩) w := by
  have hl : ((List.range k).map f).length = k := by simp
  have h1 := run_convert_bytes_back (P := Try.prog) w 59 9 5 ⟨B, 0, none⟩ k ((List.range k).map f) Try.underlying59 Try.underlying5 Try.underlying9 (fun j hj => by
    have hj' : j < k := by simpa using hj
    have e : (⟨B, 0, none⟩ : Addr).add j = ⟨B, j, none⟩ := by unfold Addr.add; split <;> simp_all
    rw [e, h.cell hj']
    simp [byF])
  rwa [hl] at h1
/-- one byte of a block is stored -/
theorem row_put {w : World} {B k i : Nat} {f : Nat → UInt8} (h : w.rowIs B 5 k (byF f)) (c : UInt8) {x : Int} (hx : x = (c.toNat : Int)) :
    (w.setCell ⟨B, i, none⟩ (.int .u8 x)).rowIs B 5 k (byF fun j => if j = i then c else f j) := by
  refine (h.set i _).congr fun j hj => ?_
  unfold byF
  dsimp only
  by_cases he : j = i
  · subst he; rw [if_pos rfl, if_pos rfl, hx]
  · rw [if_neg he, if_neg he]
/-- the bytes of a value -/
def valF (n k : Nat) (j : Nat) : UInt8 := if j < k then UInt8.ofNat ((n + j * n) % 251) else 0
def valueF (n : Nat) (j : Nat) : UInt8 := if j = 0 then UInt8.ofNat (1 + n % 255) else valF n 16 j
def valueL (n : Nat) : List UInt8 := (List.range 16).map (valueF n)
theorem val_next {w : World} {B i n : Nat} (h : w.rowIs B 5 16 (byF (valF n i))) {x : Int} (hx : x = ((UInt8.ofNat ((n + i * n) % 251)).toNat : Int)) :
    (w.setCell ⟨B, i, none⟩ (.int .u8 x)).rowIs B 5 16 (byF (valF n (i + 1))) := by
  refine (row_put h _ hx).congr fun j hj => ?_
  unfold byF valF
  dsimp only
  by_cases he : j = i
  · subst he; rw [if_pos rfl, if_pos (by omega)]
  · rw [if_neg he]
    by_cases h1 : j < i
    · rw [if_pos h1, if_pos (by omega)]
    · rw [if_neg h1, if_neg (by omega)]
theorem byte_small (m : Nat) (h : m < 256) : (m : Int) = ((UInt8.ofNat m).toNat : Int) := by
  rw [UInt8.toNat_ofNat', Nat.mod_eq_of_lt (by simpa using h)]
theorem value_length (n : Nat) : (valueL n).length = 16 := by simp [valueL]
set_option maxHeartbeats 400000 in
theorem value_any (n : Nat) (hn : n ≤ 100000) (w : World) :
    Calls Try.prog 26 #[.int .i64 n] w fun e w' => e = .returned (.string ⟨(valueL n).toArray⟩) ∧ Below w.heap.size w w' := by
  have hmk := fun w => run_make_row' (P := Try.prog) 59 5 (.int .u8 0) 1 Try.underlying59 info_byte rfl .i64 .i64 16 (by omega) (by omega) w
  simp only [Int.cast_ofNat_Int] at hmk
  have hm : ∀ (i : Nat), i < 16 → ∀ w, Calls Try.prog 12 #[.int .i64 ((n : Int) + (i : Int) * (n : Int)), .int .i64 251] w fun e w' => e = .returned (.int .i64 (((n + i * n) % 251 : Nat) : Int)) ∧ w = w' := fun i hi w => by
    have h := mod_any ((n : Int) + (i : Int) * (n : Int)) 251 (by decide) (by decide) w
    rwa [show ((n : Int) + (i : Int) * (n : Int)) % 251 = (((n + i * n) % 251 : Nat) : Int) by simp] at h
  have hm0 : ∀ w, Calls Try.prog 12 #[.int .i64 (n : Int), .int .i64 255] w fun e w' => e = .returned (.int .i64 ((n % 255 : Nat) : Int)) ∧ w = w' := fun w => by
    have h := mod_any (n : Int) 255 (by decide) (by decide) w
    rwa [show (n : Int) % 255 = ((n % 255 : Nat) : Int) by simp] at h
  have HM := Lib.hid hm
  have HM0 := Lib.hid hm0
  clear hm hm0
  go_enter Try.func26, Try.ntmps26
  go_wp2
  clear hmk
  go_loopw [4] (fun b wr => ∃ i : Nat, b = .int .i64 i ∧ i ≤ 16 ∧ wr.rowIs w.heap.size 5 16 (byF (valF n i)) ∧ Below w.heap.size w wr) (fun b _ => 16 - (intOf b).toNat)
  case atStart => exact ⟨0, rfl, by omega, (World.rowIs_made _ _ _ _).congr (by simp [byF, valF]), (Below.refl _ _).alloc (Nat.le_refl _) _⟩
  case round =>
    obtain ⟨i, rfl, hi, hrow, hb⟩ := hrel
    by_cases hlt : i < 16
    · have hc := hrow.cell hlt
      have hf := hrow.frozen i
      have hx : ((n : Int) + (i : Int) * (n : Int)) % 251 = ((UInt8.ofNat ((n + i * n) % 251)).toNat : Int) := by rw [← byte_small _ (by omega)]; simp
      have hnx := Lib.hid (val_next hrow hx)
      have hw : wrap64 ((n : Int) + wrap64 ((i : Int) * (n : Int))) = (n : Int) + (i : Int) * (n : Int) := by
        have h1 : (i : Int) * (n : Int) ≤ 16 * 100000 := by
          have h2 : i * n ≤ 16 * 100000 := Nat.mul_le_mul (by omega) hn
          have h3 : ((i * n : Nat) : Int) ≤ ((16 * 100000 : Nat) : Int) := Int.ofNat_le.2 h2
          simpa using h3
        have h4 : (0 : Int) ≤ (i : Int) * (n : Int) := Int.mul_nonneg (by omega) (by omega)
        unfold wrap64
        omega
      have hmi := HM.out i hlt
      rw [← hw] at hmi
      have HMi := Lib.hid hmi
      clear hmi hw
      clear hrow hx
      go_wp2_with (go_at_call 12; ((with_reducible refine (HMi.out _).mono ?_); rintro e w1 ⟨rfl, rfl⟩))
      go_roundw
      case rel => exact ⟨i + 1, by go_num, by omega, hnx.out, hb.setCell (Nat.le_refl _) _⟩
      case measure => simp [intOf]; omega
    · obtain rfl : i = 16 := by omega
      have hc := hrow.cell (i := 0) (by omega)
      have hf := hrow.frozen 0
      have hx : 1 + (n : Int) % 255 = ((UInt8.ofNat (1 + n % 255)).toNat : Int) := by rw [← byte_small _ (by omega)]; simp
      have hnx := row_put hrow (i := 0) _ hx
      have hcv := conv_row hnx
      have hL : (List.range 16).map (fun j => if j = 0 then UInt8.ofNat (1 + n % 255) else valF n 16 j) = valueL n := rfl
      rw [hL] at hcv
      clear hrow hx hnx hL
      generalize hZ : (⟨(valueL n).toArray⟩ : ByteArray) = Z at hcv
      have HZ := Lib.hid hZ
      clear hZ
      go_wp2_with (go_at_call 12; ((with_reducible refine (HM0.out _).mono ?_); rintro e w1 ⟨rfl, rfl⟩))
      go_ret
      exact ⟨by rw [HZ.out]; rfl, hb.setCell (Nat.le_refl _) _⟩
end Go.Proofs.Ytkamadeekkccgaa

/- The walk of the maker's Rest, for any dice. -/
namespace Go.Proofs.Ytkamadeekkccgaa
open Go.RowKit Plan
set_option maxHeartbeats 400000 in
/-- Rest: how many numbers are left -/
theorem rest_dice (w : World) (base g : Nat) (zs : List Int) (k : Nat) (hd : Dice w base g zs k) (hl : zs.length ≤ 100000) (hk : k ≤ 100000) :
    Calls Try.prog 24 #[.pointer (some ⟨g, 0, none⟩)] w fun e w' => e = .returned (.int .i64 (max 0 ((zs.length : Int) - (k : Int)))) ∧ w' = w.drew := by
  obtain ⟨v, hg, hown, hne, hb⟩ := hd
  have c0 := cell_of_row _ _ 0 _ _ _ hg
  have c1 := cell_of_row _ _ 1 _ _ _ hg
  simp only [List.getElem?_toArray, List.getElem?_cons_zero, List.getElem?_cons_succ] at c0 c1
  have hwr : IntKind.i64.wrap ((zs.length : Int) - (k : Int)) = (zs.length : Int) - (k : Int) := IntWalk.i64_in _ (by omega)
  have hv : ∃ a c, v = .slice a zs.length c := by
    rcases hown.2 with ⟨h, h0⟩ | ⟨b, c, _, h, _⟩
    · exact ⟨none, 0, by rw [h, h0]⟩
    · exact ⟨_, c, h⟩
  obtain ⟨a, c, rfl⟩ := hv
  clear hown hne hg
  go_enter Try.func24, Try.ntmps24
  go_wp2_with fail
  refine Plan.start (fun w' => w' = w.drew) [(0, true), (1, true), (2, true), (3, true), (4, true), (5, true), (6, true), (7, true), (8, true), (9, true), (10, true), (11, true)] (by kernel_rfl) (by kernel_rfl) (by kernel_rfl) (by kernel_rfl) rfl ?_
  simp only [List.map_cons, List.map_nil, List.getElem?_toArray, List.getElem?_cons_zero, List.getElem?_cons_succ]
  repeat (first | (refine Plan.take ?_ (by rfl) ?_ ?_; rotate_left; (· rintro w9 rfl; go_simp; (try rw [if_neg (by omega)]); all_goals (with_reducible rfl)); simp only [Act.put, List.setIfInBounds_toArray, List.set_cons_zero, List.set_cons_succ]) | (refine Plan.pass (by rfl) ?_; simp only [Act.put, List.setIfInBounds_toArray, List.set_cons_zero, List.set_cons_succ]))
  refine Plan.ends ?_
  go_wp2
  all_goals go_ret
  all_goals exact ⟨ret_i64 (by omega), rfl⟩
end Go.Proofs.Ytkamadeekkccgaa

/- A region that leaves its order open, walked in one order, where the last operation may write what the region reads: what the region keeps to need not hold behind the last. Every law holds for any program. -/
namespace Go.Proofs.Ytkamadeekkccgaa.Last
open Go.RowKit

/-- Does an operation wait for all others? Then it comes last, and what the region keeps to need not hold behind it. -/
def final (md : Region.Mode) (ops : Array Oper) (i : Nat) : Bool :=
  match ops[i]? with
  | none => false
  | some o => (List.range ops.size).all fun j => j == i || o.after.any fun e => Region.binds md e && e.on == j
/-- Whichever comes up: what the region keeps to holds behind all but the last. -/
def any (P : Program) (md : Region.Mode) (ops : Array Oper) (Q : Exit → Act → World → Prop) (S : World → Prop) : Nat → Array Bool → Act → World → Prop
  | 0, listed, a, w => Region.ready md ops listed = [] ∧ Q .normal a w
  | fuel + 1, listed, a, w => (Region.ready md ops listed = [] → Q .normal a w) ∧
    ∀ i ∈ Region.ready md ops listed, wpOp P ops Q i (fun a' w' => (final md ops i = true ∨ S w') ∧ any P md ops Q S fuel (listed.setIfInBounds i true) a' w') a w
/-- Is the plan one: a number with 'true' may come up and is free of the others, one with 'false' is the only one that may come up, and all come up. -/
def good (md : Region.Mode) (ops : Array Oper) : List (Nat × Bool) → Array Bool → Bool
  | [], listed => (Region.ready md ops listed).isEmpty
  | (k, true) :: r, listed => (Region.ready md ops listed).contains k && Region.free md ops listed k && good md ops r (listed.setIfInBounds k true)
  | (k, false) :: r, listed => (Region.ready md ops listed == [k]) && (!r.isEmpty || final md ops k) && good md ops r (listed.setIfInBounds k true)

/-- The operations of a plan, one after the other. -/
def goes (P : Program) (ops : Array Oper) (Q : Exit → Act → World → Prop) (S : World → Prop) : List (Option Oper × Bool) → Act → World → Prop
  | [], a, w => Q .normal a w
  | (none, _) :: _, _, _ => False
  | (some o, true) :: r, a, w => ∃ v, YieldsIf P ops S o v a ∧ goes P ops Q S r (a.put o.dst v) w
  | (some o, false) :: r, a, w => ∃ R : Act → World → Prop, (∀ a' w', R a' w' → (r = [] ∨ S w') ∧ goes P ops Q S r a' w') ∧ (if Region.wanted o (yielded ops a.tmps) then o.wp P a w R Q else R (a.put o.dst undef) w)

section
variable {P : Program} {ops : Array Oper} {Q : Exit → Act → World → Prop} {S : World → Prop} {md : Region.Mode}
theorem listed_both {listed : Array Bool} {i : Nat} (h0 : listed.getD i true = false) (h1 : listed.getD i false = true) : False := by
  rcases Nat.lt_or_ge i listed.size with h | h
  · simp [h] at h0 h1
    rw [h0] at h1
    cases h1
  · simp [Array.getElem?_eq_none h] at h1
theorem not_final {listed : Array Bool} {i j : Nat} (hi : i ∈ Region.ready md ops listed) (hj : j ∈ Region.ready md ops listed) (hij : j ≠ i) : final md ops j = false := by
  obtain ⟨hui, oi, hoi, _⟩ := mem_ready.1 hi
  obtain ⟨_, oj, hoj, hall⟩ := mem_ready.1 hj
  cases hf : final md ops j with
  | false => rfl
  | true =>
    exfalso
    simp only [final, hoj, List.all_eq_true, List.mem_range] at hf
    have h1 := hf i (Array.getElem?_eq_some_iff.1 hoi).1
    rw [Bool.or_eq_true] at h1
    rcases h1 with h1 | h1
    · exact hij (beq_iff_eq.1 h1).symm
    · obtain ⟨e, he, hb⟩ := Array.any_eq_true'.1 h1
      rw [Bool.and_eq_true, beq_iff_eq] at hb
      have h2 := hall e he hb.1
      rw [hb.2] at h2
      exact listed_both hui h2
theorem any_sound : ∀ (fuel : Nat) (listed : Array Bool) (a : Act) (w : World), any P md ops Q S fuel listed a w → wpAny P md ops Q fuel listed a w
  | 0, _, _, _, h => h
  | fuel + 1, _, _, _, h => ⟨h.1, fun i hi => wpOp_mono (fun a' w' h' => any_sound fuel _ a' w' h'.2) (h.2 i hi)⟩
/-- One that may come up, that yields its value in every world that the region keeps to, and that nobody looks at before it, may be taken first. -/
theorem any_first {i : Nat} {oi : Oper} {v : Value} (hi : ops[i]? = some oi) (hsel : ∀ (j : Nat) (o : Oper) cs b, ops[j]? = some o → o.op ≠ .select cs b)
    (hQ : ∀ c a w, Q (.panic c) (a.put oi.dst v) w → Q (.panic c) a w) :
    ∀ (fuel : Nat) (listed : Array Bool) (a : Act) (w : World),
      (∀ j oj, ops[j]? = some oj → j ≠ i → listed.getD j true = false → (∀ e ∈ oj.after, Region.binds md e = true → e.on ≠ i) → oi.apart ops oj = true) →
      i ∈ Region.ready md ops listed → YieldsIf P ops S oi v a → S w →
      any P md ops Q S fuel (listed.setIfInBounds i true) (a.put oi.dst v) w → any P md ops Q S (fuel + 1) listed a w := by
  intro fuel
  induction fuel with
  | zero =>
    intro listed a w _ hr hy hS H
    refine ⟨fun h => (by rw [h] at hr; cases hr), fun j hj => ?_⟩
    by_cases hji : j = i
    · subst hji; exact hy.wpOp hi hS ⟨.inr hS, H⟩
    · have h1 := ready_mono hj hji
      rw [H.1] at h1
      cases h1
  | succ fuel ih =>
    intro listed a w hfree hr hy hS H
    refine ⟨fun h => (by rw [h] at hr; cases hr), fun j hj => ?_⟩
    by_cases hji : j = i
    · subst hji; exact hy.wpOp hi hS ⟨.inr hS, H⟩
    · have h1 := H.2 j (ready_mono hj hji)
      obtain ⟨hjun, oj, hoj, hall⟩ := mem_ready.1 hj
      have hnf := not_final hr hj hji
      have hnot : ∀ e ∈ oj.after, Region.binds md e = true → e.on ≠ i := fun e he hb heq =>
        listed_both (mem_ready.1 hr).1 (heq ▸ hall e he hb)
      have h2 := wpOp_putIf hoj (hfree j oj hoj hji hjun hnot) (fun cs b => hsel i oi cs b hi) (fun cs b => hsel j oj cs b hoj) hQ hy h1
      refine wpOp_mono (fun a' w' h3 => ?_) h2
      have hS' : S w' := h3.2.1.resolve_left (by rw [hnf]; decide)
      refine ⟨.inr hS', ih (listed.setIfInBounds j true) a' w' (fun k ok hk hki hun hno => hfree k ok hk hki ?_ hno) (ready_mono hr (Ne.symm hji)) h3.1 hS' ?_⟩
      · by_cases hjk : j = k
        · subst hjk; exact hjun
        · rwa [getD_set_ne true hjk] at hun
      · rw [Array.setIfInBounds_comm _ _ hji]
        exact h3.2.2
theorem any_of_goes (hs : Region.noSelect ops = true) (hQ : ∀ c a d v w, Q (.panic c) (Act.put a d v) w → Q (.panic c) a w) :
    ∀ (plan : List (Nat × Bool)) (listed : Array Bool) (a : Act) (w : World), good md ops plan listed = true → (plan = [] ∨ S w) →
      goes P ops Q S (plan.map fun p => (ops[p.1]?, p.2)) a w → any P md ops Q S plan.length listed a w
  | [], listed, a, w, hB, _, h => ⟨by simpa [good] using hB, h⟩
  | (k, true) :: r, listed, a, w, hB, hS, h => by
    have hS' : S w := hS.resolve_left (by simp)
    simp only [good, Bool.and_eq_true] at hB
    simp only [List.map_cons] at h
    cases ho : ops[k]? with
    | none => rw [ho] at h; exact h.elim
    | some o =>
      rw [ho] at h
      obtain ⟨v, hy, hr⟩ := h
      exact any_first ho (Region.noSelect_spec hs) (fun c a w => hQ c a o.dst v w) r.length listed a w (Region.free_spec ho hB.1.2) (by simpa using hB.1.1) hy hS' (any_of_goes hs hQ r _ _ _ hB.2 (.inr hS') hr)
  | (k, false) :: r, listed, a, w, hB, hS, h => by
    simp only [good, Bool.and_eq_true, beq_iff_eq] at hB
    simp only [List.map_cons] at h
    refine ⟨fun h0 => (by rw [hB.1.1] at h0; cases h0), fun i hi => ?_⟩
    rw [hB.1.1] at hi
    have hik : i = k := by simpa using hi
    subst hik
    cases ho : ops[i]? with
    | none => rw [ho] at h; exact h.elim
    | some o =>
      rw [ho] at h
      obtain ⟨R, hR, hr⟩ := h
      have hw : wpOp P ops Q i R a w := by
        unfold wpOp
        simp only [ho]
        split
        · rename_i hw
          rw [if_pos hw] at hr
          exact .inl hr
        · rename_i hw
          rw [if_neg hw] at hr
          exact hr
      refine wpOp_mono (fun a' w' h' => ?_) hw
      obtain ⟨h1, h2⟩ := hR a' w' h'
      have h3 : r = [] ∨ S w' := h1.imp_left (by simp)
      refine ⟨?_, any_of_goes hs hQ r _ _ _ hB.2 h3 h2⟩
      rcases h3 with h3 | h3
      · subst h3
        exact .inl (by simpa using hB.1.2)
      · exact .inr h3
/-- THE BEGINNING: S is what the region keeps to. -/
theorem start {id : Nat} {a : Act} {w : World} (S : World → Prop) (plan : List (Nat × Bool)) (hm : P.follows .mixedOrders = true) (hs : Region.noSelect ops = true) (hl : plan.length = ops.size)
    (hB : good .any ops plan (Array.replicate ops.size false) = true) (hS : S w.drew)
    (h : goes P ops (NoPanic Q) S (plan.map fun p => (ops[p.1]?, p.2)) a w.drew) : (Code.region id ops true).wp P Q a w :=
  wp_region_noPanic (wp_region_any hm (by
    have := any_sound _ _ _ _ (any_of_goes (P := P) (Q := NoPanic Q) (S := S) hs (fun _ _ _ _ _ h => h) plan (Array.replicate ops.size false) a w.drew hB (.inr hS) h)
    rw [hl] at this
    exact this))
/-- THE END. -/
theorem ends {Q : Exit → Act → World → Prop} {a : Act} {w : World} (h : Q .normal a w) : goes P ops (NoPanic Q) S [] a w := h
/-- One that yields its value in every world that meets S. -/
theorem take {o : Oper} {r : List (Option Oper × Bool)} {a : Act} {w : World} (v : Value) (hw : Region.wanted o (yielded ops a.tmps) = true) (hv : ∀ w, S w → (execOp a.eval o).run P w = .ok (.value v) w)
    (h : goes P ops Q S r (a.put o.dst v) w) : goes P ops Q S ((some o, true) :: r) a w := ⟨v, .inl ⟨hw, hv⟩, h⟩
/-- One that is passed over. -/
theorem pass {o : Oper} {r : List (Option Oper × Bool)} {a : Act} {w : World} (hw : Region.wanted o (yielded ops a.tmps) = false)
    (h : goes P ops Q S r (a.put o.dst undef) w) : goes P ops Q S ((some o, true) :: r) a w := ⟨undef, .inr ⟨hw, rfl⟩, h⟩
theorem pass' {o : Oper} {r : List (Option Oper × Bool)} {a : Act} {w : World} (hw : Region.wanted o (yielded ops a.tmps) = false) (hS : S w)
    (h : goes P ops Q S r (a.put o.dst undef) w) : goes P ops Q S ((some o, false) :: r) a w :=
  ⟨fun a' w' => S w' ∧ goes P ops Q S r a' w', fun _ _ h => ⟨.inr h.1, h.2⟩, by rw [if_neg (by simp [hw])]; exact ⟨hS, h⟩⟩
/-- One that is carried out. -/
theorem carry {o : Oper} {r : List (Option Oper × Bool)} {a : Act} {w : World} (hw : Region.wanted o (yielded ops a.tmps) = true)
    (h : o.wp P a w (fun a' w' => S w' ∧ goes P ops Q S r a' w') Q) : goes P ops Q S ((some o, false) :: r) a w :=
  ⟨fun a' w' => S w' ∧ goes P ops Q S r a' w', fun _ _ h => ⟨.inr h.1, h.2⟩, by rw [if_pos hw]; exact h⟩
/-- The last one. -/
theorem last {o : Oper} {Q : Exit → Act → World → Prop} {a : Act} {w : World} (hw : Region.wanted o (yielded ops a.tmps) = true) (h : o.wp P a w (fun a' w' => Q .normal a' w') (NoPanic Q)) : goes P ops (NoPanic Q) S [(some o, false)] a w :=
  ⟨fun a' w' => Q .normal a' w', fun _ _ h => ⟨.inl rfl, h⟩, by rw [if_pos hw]; exact h⟩
/-- A call of a Go function, by its contract. -/
theorem call {o : Oper} {r : List (Option Oper × Bool)} {a : Act} {w : World} (hw : Region.wanted o (yielded ops a.tmps) = true) (f : FuncId) (vs : Array Value) {R : Ending → World → Prop}
    (ho : (execOp a.eval o).run P w = .ok (.enter f vs) w) (hc : Calls P f vs w R)
    (h : ∀ e w', R e w' → ∃ v, e = .returned v ∧ S w' ∧ goes P ops Q S r (a.put o.dst v) w') : goes P ops Q S ((some o, false) :: r) a w :=
  carry hw (by
    unfold Oper.wp
    rw [ho]
    simp only [Oper.upon]
    refine hc.mono fun e w' he => ?_
    obtain ⟨v, rfl, hS, hg⟩ := h e w' he
    exact ⟨hS, hg⟩)
/-- One that makes memory. -/
theorem make {o : Oper} {r : List (Option Oper × Bool)} {a : Act} {w : World} (hw : Region.wanted o (yielded ops a.tmps) = true) (v : Value) (w1 : World)
    (ho : (execOp a.eval o).run P w = .ok (.value v) w1) (hS : S w1) (h : goes P ops Q S r (a.put o.dst v) w1) : goes P ops Q S ((some o, false) :: r) a w :=
  carry hw (by
    unfold Oper.wp
    rw [ho]
    exact ⟨hS, h⟩)
end
end Go.Proofs.Ytkamadeekkccgaa.Last

/- A region that leaves its order open, walked by a plan in which two operations may come up at one time, where the last operation may write what the region reads. Every law holds for any program. -/
namespace Go.Proofs.Ytkamadeekkccgaa.LTree
open Go.RowKit Tree Last
def isDone {α : Type} : T α → Bool
  | .done => true
  | _ => false
def good (md : Region.Mode) (ops : Array Oper) : T Nat → Array Bool → Bool
  | .done, listed => (Region.ready md ops listed).isEmpty
  | .take k r, listed => (Region.ready md ops listed).contains k && Region.free md ops listed k && good md ops r (listed.setIfInBounds k true)
  | .only k r, listed => (Region.ready md ops listed == [k]) && (!isDone r || final md ops k) && good md ops r (listed.setIfInBounds k true)
  | .fork k r l s, listed => (Region.ready md ops listed == [k, l]) && (r.size == s.size) && !isDone r && !isDone s && good md ops r (listed.setIfInBounds k true) && good md ops s (listed.setIfInBounds l true)
def goes (P : Program) (ops : Array Oper) (Q : Exit → Act → World → Prop) (S : World → Prop) : T (Option Oper) → Act → World → Prop
  | .done, a, w => Q .normal a w
  | .take none _, _, _ => False
  | .take (some o) r, a, w => ∃ v, YieldsIf P ops S o v a ∧ goes P ops Q S r (a.put o.dst v) w
  | .only none _, _, _ => False
  | .only (some o) r, a, w => ∃ R : Act → World → Prop, (∀ a' w', R a' w' → (isDone r = true ∨ S w') ∧ goes P ops Q S r a' w') ∧ (if Region.wanted o (yielded ops a.tmps) then o.wp P a w R Q else R (a.put o.dst undef) w)
  | .fork none _ _ _, _, _ => False
  | .fork _ _ none _, _, _ => False
  | .fork (some o) r (some p) s, a, w => (∃ R : Act → World → Prop, (∀ a' w', R a' w' → S w' ∧ goes P ops Q S r a' w') ∧ (if Region.wanted o (yielded ops a.tmps) then o.wp P a w R Q else R (a.put o.dst undef) w)) ∧
      (∃ R : Act → World → Prop, (∀ a' w', R a' w' → S w' ∧ goes P ops Q S s a' w') ∧ (if Region.wanted p (yielded ops a.tmps) then p.wp P a w R Q else R (a.put p.dst undef) w))
section
variable {P : Program} {ops : Array Oper} {Q : Exit → Act → World → Prop} {S : World → Prop} {md : Region.Mode}
theorem done_map {r : T Nat} : isDone (r.map fun p => ops[p]?) = isDone r := by cases r <;> rfl
theorem one {i : Nat} {o : Oper} {a : Act} {w : World} {G G' : Act → World → Prop} (ho : ops[i]? = some o)
    (h : ∃ R : Act → World → Prop, (∀ a' w', R a' w' → G a' w') ∧ (if Region.wanted o (yielded ops a.tmps) then o.wp P a w R Q else R (a.put o.dst undef) w))
    (hG : ∀ a' w', G a' w' → G' a' w') : wpOp P ops Q i G' a w := by
  obtain ⟨R, hR, hr⟩ := h
  have hw : wpOp P ops Q i R a w := by
    unfold wpOp
    simp only [ho]
    split
    · rename_i hw
      rw [if_pos hw] at hr
      exact .inl hr
    · rename_i hw
      rw [if_neg hw] at hr
      exact hr
  exact wpOp_mono (fun a' w' h' => hG a' w' (hR a' w' h')) hw
theorem any_of_goes (hs : Region.noSelect ops = true) (hQ : ∀ c a d v w, Q (.panic c) (Act.put a d v) w → Q (.panic c) a w) :
    ∀ (plan : T Nat) (listed : Array Bool) (a : Act) (w : World), good md ops plan listed = true → (isDone plan = true ∨ S w) →
      goes P ops Q S (plan.map fun p => ops[p]?) a w → any P md ops Q S plan.size listed a w
  | .done, listed, a, w, hB, _, h => ⟨by simpa [good] using hB, h⟩
  | .take k r, listed, a, w, hB, hS, h => by
    have hS' : S w := hS.resolve_left (by simp [isDone])
    simp only [good, Bool.and_eq_true] at hB
    simp only [T.map] at h
    cases ho : ops[k]? with
    | none => rw [ho] at h; exact h.elim
    | some o =>
      rw [ho] at h
      obtain ⟨v, hy, hr⟩ := h
      exact any_first ho (Region.noSelect_spec hs) (fun c a w => hQ c a o.dst v w) r.size listed a w (Region.free_spec ho hB.1.2) (by simpa using hB.1.1) hy hS' (any_of_goes hs hQ r _ _ _ hB.2 (.inr hS') hr)
  | .only k r, listed, a, w, hB, _, h => by
    simp only [good, Bool.and_eq_true, beq_iff_eq] at hB
    simp only [T.map] at h
    refine ⟨fun h0 => (by rw [hB.1.1] at h0; cases h0), fun i hi => ?_⟩
    rw [hB.1.1] at hi
    have hik : i = k := by simpa using hi
    subst hik
    cases ho : ops[i]? with
    | none => rw [ho] at h; exact h.elim
    | some o =>
      rw [ho] at h
      refine one ho h fun a' w' hh => ?_
      have h3 : isDone r = true ∨ S w' := by rw [← done_map (ops := ops)]; exact hh.1
      refine ⟨?_, any_of_goes hs hQ r _ _ _ hB.2 h3 hh.2⟩
      rcases h3 with h3 | h3
      · refine .inl ?_
        have := hB.1.2
        rw [h3] at this
        simpa using this
      · exact .inr h3
  | .fork k r l s, listed, a, w, hB, _, h => by
    simp only [good, Bool.and_eq_true, beq_iff_eq] at hB
    simp only [T.map] at h
    refine ⟨fun h0 => (by rw [hB.1.1.1.1.1] at h0; cases h0), fun i hi => ?_⟩
    rw [hB.1.1.1.1.1] at hi
    cases ho : ops[k]? with
    | none => rw [ho] at h; exact h.elim
    | some o =>
      cases hp : ops[l]? with
      | none => rw [ho, hp] at h; exact h.elim
      | some p =>
        rw [ho, hp] at h
        have hik : i = k ∨ i = l := by simpa using hi
        rcases hik with rfl | rfl
        · exact one ho h.1 fun a' w' hh => ⟨.inr hh.1, any_of_goes hs hQ r _ _ _ hB.1.2 (.inr hh.1) hh.2⟩
        · have hsz : (T.fork k r i s).size = s.size + 1 := by show r.size + 1 = s.size + 1; rw [hB.1.1.1.1.2]
          have he : r.size = s.size := hB.1.1.1.1.2
          rw [he]
          exact one hp h.2 fun a' w' hh => ⟨.inr hh.1, any_of_goes hs hQ s _ _ _ hB.2 (.inr hh.1) hh.2⟩
/-- THE BEGINNING: S is what the region keeps to, but for the last one. -/
theorem start {id : Nat} {a : Act} {w : World} (S : World → Prop) (plan : T Nat) (hm : P.follows .mixedOrders = true) (hs : Region.noSelect ops = true) (hl : plan.size = ops.size)
    (hB : good .any ops plan (Array.replicate ops.size false) = true) (hS : S w.drew)
    (h : goes P ops (NoPanic Q) S (plan.map fun p => ops[p]?) a w.drew) : (Code.region id ops true).wp P Q a w :=
  wp_region_noPanic (wp_region_any hm (by
    have := any_sound _ _ _ _ (any_of_goes (P := P) (Q := NoPanic Q) (S := S) hs (fun _ _ _ _ _ h => h) plan (Array.replicate ops.size false) a w.drew hB (.inr hS) h)
    rw [hl] at this
    exact this))
theorem ends {Q : Exit → Act → World → Prop} {a : Act} {w : World} (h : Q .normal a w) : goes P ops (NoPanic Q) S .done a w := h
theorem take {o : Oper} {r : T (Option Oper)} {a : Act} {w : World} (v : Value) (hw : Region.wanted o (yielded ops a.tmps) = true) (hv : ∀ w, S w → (execOp a.eval o).run P w = .ok (.value v) w)
    (h : goes P ops Q S r (a.put o.dst v) w) : goes P ops Q S (.take (some o) r) a w := ⟨v, .inl ⟨hw, hv⟩, h⟩
theorem carryR {o : Oper} {r : T (Option Oper)} {a : Act} {w : World} (hw : Region.wanted o (yielded ops a.tmps) = true)
    (h : o.wp P a w (fun a' w' => S w' ∧ goes P ops Q S r a' w') Q) : ∃ R : Act → World → Prop, (∀ a' w', R a' w' → S w' ∧ goes P ops Q S r a' w') ∧ (if Region.wanted o (yielded ops a.tmps) then o.wp P a w R Q else R (a.put o.dst undef) w) :=
  ⟨fun a' w' => S w' ∧ goes P ops Q S r a' w', fun _ _ h => h, by rw [if_pos hw]; exact h⟩
theorem only {o : Oper} {r : T (Option Oper)} {a : Act} {w : World} (hw : Region.wanted o (yielded ops a.tmps) = true)
    (h : o.wp P a w (fun a' w' => S w' ∧ goes P ops Q S r a' w') Q) : goes P ops Q S (.only (some o) r) a w :=
  ⟨fun a' w' => S w' ∧ goes P ops Q S r a' w', fun _ _ h => ⟨.inr h.1, h.2⟩, by rw [if_pos hw]; exact h⟩
/-- The last one. -/
theorem last {o : Oper} {Q : Exit → Act → World → Prop} {a : Act} {w : World} (hw : Region.wanted o (yielded ops a.tmps) = true) (h : o.wp P a w (fun a' w' => Q .normal a' w') (NoPanic Q)) : goes P ops (NoPanic Q) S (.only (some o) .done) a w :=
  ⟨fun a' w' => Q .normal a' w', fun _ _ h => ⟨.inl rfl, h⟩, by rw [if_pos hw]; exact h⟩
theorem fork {o p : Oper} {r s : T (Option Oper)} {a : Act} {w : World} (hw : Region.wanted o (yielded ops a.tmps) = true) (hv : Region.wanted p (yielded ops a.tmps) = true)
    (h : o.wp P a w (fun a' w' => S w' ∧ goes P ops Q S r a' w') Q) (k : p.wp P a w (fun a' w' => S w' ∧ goes P ops Q S s a' w') Q) : goes P ops Q S (.fork (some o) r (some p) s) a w := ⟨carryR hw h, carryR hv k⟩
end
end Go.Proofs.Ytkamadeekkccgaa.LTree

/- The load of a whole row in a tree of orders. -/
namespace Go.Proofs.Ytkamadeekkccgaa
open Go.RowKit Tree
section
variable {P : Program} {ops : Array Oper} {Q : Exit → Act → World → Prop} {S : World → Prop}
theorem LTree.take_load {o : Oper} {r : T (Option Oper)} {a : Act} {w : World} (ty : TypeId) (x : Operand) (g : Nat) (cs : Array Value) {t : TypeId} {fr : Nat × Nat} {d : TypeDesc}
    (hw : Region.wanted o (yielded ops a.tmps) = true) (ho : o.op = .load ty x) (hx : a.eval x = .pointer (some ⟨g, 0, none⟩)) (hS : ∀ w, S w → w.heap[g]? = some (.cells cs t fr))
    (hu : P.underlying ty = some d) (hd : (match d with | .struct _ | .array _ _ => true | _ => false) = true) (hi : (P.info? ty).map (·.size) = some cs.size)
    (h : LTree.goes P ops Q S r (a.put o.dst (.agg cs)) w) : LTree.goes P ops Q S (.take (some o) r) a w :=
  LTree.take (.agg cs) hw (fun w9 h9 => by
    simp [execOp, ho, hx, Instr.loadAt, Instr.sureAddr, run_loadVar_row w9 g t ty cs fr d (hS w9 h9) hu hd hi]) h
theorem Tree.take_load {o : Oper} {r : T (Option Oper)} {a : Act} {w : World} (ty : TypeId) (x : Operand) (g : Nat) (cs : Array Value) {t : TypeId} {fr : Nat × Nat} {d : TypeDesc}
    (hw : Region.wanted o (yielded ops a.tmps) = true) (ho : o.op = .load ty x) (hx : a.eval x = .pointer (some ⟨g, 0, none⟩)) (hS : ∀ w, S w → w.heap[g]? = some (.cells cs t fr))
    (hu : P.underlying ty = some d) (hd : (match d with | .struct _ | .array _ _ => true | _ => false) = true) (hi : (P.info? ty).map (·.size) = some cs.size)
    (h : Tree.goes P ops Q S r (a.put o.dst (.agg cs)) w) : Tree.goes P ops Q S (.take (some o) r) a w :=
  Tree.take (.agg cs) hw (fun w9 h9 => by
    simp [execOp, ho, hx, Instr.loadAt, Instr.sureAddr, run_loadVar_row w9 g t ty cs fr d (hS w9 h9) hu hd hi]) h
end
end Go.Proofs.Ytkamadeekkccgaa

/- The walk of the histories that the laws of layer 18 make. -/
namespace Go.Proofs.Ytkamadeekkccgaa.Ents
open Go.RowKit Plan HisMath Rws Env LayMath
/-- what the maker of a right history leaves -/
def HMadePost (w : World) (r : Ending) (w' : World) : Prop :=
  ∃ (v : Value) (X : List Ev), r = .returned v ∧ w'.ownsRow w.heap.size VR.et VR.sz v X.length (VR.all X) ∧ Below w.heap.size w w' ∧ Right X ∧ X.length ≤ 60 ∧ ∀ x ∈ X, 1 ≤ x.kind ∧ x.kind ≤ 4 ∧ 0 ≤ x.block ∧ x.block ≤ 2
set_option maxHeartbeats 8000000 in
set_option maxRecDepth 20000 in
theorem hisMade_any (a : Option Addr) (n c : Nat) (Z : List Int) (w : World) (hz : IsRow .i64 w a n c Z) (hm : n ≤ 300) :
    Calls Try.prog 10 #[.slice a n c] w (HMadePost w) := by
  have HR := Lib.hid (roll_any a n c Z w hz hm)
  unfold RollPost at HR
  have hzl : (Z.take n).length ≤ 100000 := by rw [List.length_take]; omega
  have K := Env.start w
  unfold HMadePost
  generalize Z.take n = zs at *
  clear hz
  go_enter Try.func10, Try.ntmps10
  go_wp2_with (first
    | (go_at_call 23; ((with_reducible refine (HR.out).mono ?_); rintro r9 w1 ⟨g, rfl, hd, hb⟩; replace K := (K.roll hd hb).1; clear hd hb)))
  clear HR
  replace K := ((K.nil VR).nil VR)
  go_loopw [4, 5, 6] (fun o p x wr => ∃ (j k : Nat) (O P : List Ev), x = .int .i64 (j : Int) ∧ j ≤ 60 ∧ k ≤ 8 * j ∧ O.length = j ∧ P.length ≤ j ∧ RowKit.Hid (Made O P (j : Int)) ∧ Env w wr [Env.lst VR o j O, Env.lst VR p P.length P, dieT w.heap.size g zs k]) (fun _ _ x _ => 60 - (intOf x).toNat)
  case atStart => exact ⟨0, 0, [], [], rfl, by omega, by omega, rfl, by simp, Lib.hid Made.start, K⟩
  case round =>
    clear K
    obtain ⟨j, k, O, P, rfl, hj, hk, hO, hP, HM, K⟩ := hrel
    have HD := Lib.hid (fun W (h : Dice W w.heap.size g zs k) => rest_dice W w.heap.size g zs k h hzl (by omega))
    by_cases hgo : k < zs.length ∧ j < 60
    · obtain ⟨hk2, hj2⟩ := hgo
      have hM : 0 < max (0 : Int) ((zs.length : Int) - (k : Int)) := by rw [Int.max_eq_right (by omega)]; omega
      generalize max (0 : Int) ((zs.length : Int) - (k : Int)) = M at *
      have hjI : (j : Int) < 60 := by omega
      have t5 : decide ((j : Int) < 60) = true := decide_eq_true hjI
      obtain ⟨ov, hov⟩ : ∃ a c, u4 = .slice a j c := by
        obtain ⟨a, c, e, _⟩ := K.any vrOk 0 rfl
        exact ⟨a, c, e⟩
      obtain ⟨oc, rfl⟩ := hov
      obtain ⟨pv, hpv⟩ : ∃ a c, u5 = .slice a P.length c := by
        obtain ⟨a, c, e, _⟩ := K.any vrOk 1 rfl
        exact ⟨a, c, e⟩
      obtain ⟨pc, rfl⟩ := hpv
      obtain ⟨p, hp⟩ : ∃ p, P.length = p := ⟨_, rfl⟩
      rw [hp] at K hP ⊢
      go_upto_region 7 with (first
        | (go_at_call 24; ((with_reducible refine (HD.out _ (K.die 2 rfl)).mono ?_); rintro r9 w5 ⟨rfl, rfl⟩; replace K := K.drew)))
      generalize hw5 : World.drew _ = w5 at *
      clear hw5 HD
      go_cut [29] (fun s wx => ∃ (k' : Nat) (b : Bool), s = .bool b ∧ (b = true → 0 < p) ∧ k' ≤ k + 1 ∧ Env w wx [Env.lst VR (.slice ov j oc) j O, Env.lst VR (.slice pv p pc) p P, dieT w.heap.size g zs k'])
      case first =>
        by_cases hp0 : 0 < p
        · have q1 : decide (0 < p) = true := decide_eq_true hp0
          have q2 : (0 : Int) < (p : Int) := by omega
          have m1 : True := trivial
          go_wp2_with (first
            | (have z9 := m1; clear z9; go_at_call 25; ((with_reducible refine (K.next 2 rfl hzl _ (by omega) (by omega)).mono ?_); rintro r9 w9 ⟨y, k9, rfl, hy, hk9, K9, -⟩; simp only [List.set] at K9; clear K m1; have K := K9; clear K9)))
          go_meet
          exact ⟨_, _, rfl, fun _ => hp0, hk9, K⟩
        · have q1 : decide (0 < p) = false := decide_eq_false hp0
          have q2 : ¬ (0 : Int) < (p : Int) := by omega
          go_wp2_with fail
          go_meet
          exact ⟨_, _, rfl, (fun h => by cases h), by omega, K⟩
      case rest =>
        clear K
        obtain ⟨k1, b, rfl, hb, hk1, K⟩ := hcut
        go_upto_if 29 with fail
        cases b
        · have m1 : True := trivial
          have m2 : True := trivial
          have m3 : True := trivial
          clear hb
          go_upto_if 80 with (first
            | (have z9 := m1; clear z9; go_at_call 25; ((with_reducible refine (K.next 2 rfl hzl _ (by omega) (by omega)).mono ?_); rintro r9 w9 ⟨q, k9, rfl, hq, hk9, K9, -⟩; simp only [List.set] at K9; clear K m1; have K := K9; clear K9))
            | (have z9 := m2; clear z9; go_at_call 25; ((with_reducible refine (K.next 2 rfl hzl _ (by omega) (by omega)).mono ?_); rintro r9 w9 ⟨y, k9, rfl, hy, hk9, K9, -⟩; simp only [List.set] at K9; clear K m2; have K := K9; clear K9; have hk65 : IntKind.i64.wrap (1 + (y : Int)) = 1 + (y : Int) := (by rw [IntWalk.i64_in _ (by omega)]); have hk64 : wrap64 (1 + (y : Int)) = 1 + (y : Int) := by clear K; unfold wrap64; omega))
            | (have z9 := m3; clear z9; go_at_call 25; ((with_reducible refine (K.next 2 rfl hzl _ (by omega) (by omega)).mono ?_); rintro r9 w9 ⟨bl, k9, rfl, hbl, hk9, K9, -⟩; simp only [List.set] at K9; clear K m3; have K := K9; clear K9; have KZ := K.al (.cells #[.bool false, .int .i64 0, .int .i64 0, .int .i64 0, .int .i64 0, .string ⟨#[]⟩, .int .i64 0, .string ⟨#[]⟩] 36)))
            | ((with_reducible refine Plan.store_lit 36 (.tmp 9) _ w9.heap.size #[.bool false, .int .i64 (q : Int), .int .i64 (j : Int), .int .i64 (1 + (y : Int)), .int .i64 (bl : Int), .string ⟨#[]⟩, .int .i64 0, .string ⟨#[]⟩] (KZ.get 0 rfl) ?_ ?_ ?_ ?_ ?_ ?_); rotate_left; (· rfl); (· exact ev_info); (· rfl); (· simp [Value.oneCell']); rotate_left; (· rfl); simp only [Act.put]; have K9 := KZ.put 0 rfl (cs' := #[.bool false, .int .i64 (q : Int), .int .i64 (j : Int), .int .i64 (1 + (y : Int)), .int .i64 (bl : Int), .string ⟨#[]⟩, .int .i64 0, .string ⟨#[]⟩]) rfl; simp only [List.set] at K9; clear K KZ; have K := K9; clear K9; generalize World.setRow _ _ _ = w10 at *; generalize w9.heap.size = G at *; obtain ⟨b0, b1, b2, b3, b4, b5, b6, b7⟩ := ev_cells (K.get 0 rfl)))
          clear hk64 hk65
          go_cut [] (fun wx => ∃ (sv : ByteArray) (k' : Nat), k' ≤ k9 + 1 ∧ Env w wx [.box G (.cells #[.bool false, .int .i64 (q : Int), .int .i64 (j : Int), .int .i64 (1 + (y : Int)), .int .i64 (bl : Int), .string sv, .int .i64 0, .string ⟨#[]⟩] 36), Env.lst VR (.slice ov j oc) j O, Env.lst VR (.slice pv p pc) p P, dieT w.heap.size g zs k'])
          case first =>
            by_cases hy1 : y = 1
            · have d1 : ((1 + (y : Int)) == 2) = true := by simp; omega
              have d2 : (1 + (y : Int)) = 2 := by omega
              have m4 : True := trivial
              go_wp2_with (first
                | (have z9 := m4; clear z9; go_at_call 25; ((with_reducible refine (K.next 3 rfl hzl _ (by omega) (by omega)).mono ?_); rintro r9 w9 ⟨dv, k9, rfl, hdv, hk9, K9, -⟩; simp only [List.set] at K9; clear K m4; have K := K9; clear K9))
                | (go_at_call 26; ((with_reducible refine (value_any dv (by omega) _).mono ?_); rintro r9 w11 ⟨rfl, hb⟩; have K9 := K.on hb; clear K hb; have K := K9; clear K9; have hsv : (⟨(valueL dv).toArray⟩ : ByteArray).size = 16 := value_length dv; generalize (⟨(valueL dv).toArray⟩ : ByteArray) = sv at *; clear b0 b1 b2 b3 b4 b5 b6 b7; obtain ⟨b0, b1, b2, b3, b4, b5, b6, b7⟩ := ev_cells (K.get 0 rfl); have f5 := K.free 0 rfl 5; have f7 := K.free 0 rfl 7)))
              have K9 := K.put1 0 rfl (cs' := #[.bool false, .int .i64 (q : Int), .int .i64 (j : Int), .int .i64 (1 + (y : Int)), .int .i64 (bl : Int), .string sv, .int .i64 0, .string ⟨#[]⟩]) 5 (.string sv) rfl rfl
              simp only [List.set] at K9
              go_meet
              exact ⟨sv, _, by omega, K9⟩
            · have d1 : ((1 + (y : Int)) == 2) = false := by simp; omega
              have d2 : ¬ (1 + (y : Int)) = 2 := by omega
              go_wp2_with fail
              go_meet
              exact ⟨⟨#[]⟩, _, by omega, K⟩
          case rest =>
            clear K b0 b1 b2 b3 b4 b5 b6 b7
            obtain ⟨sv, k2, hk2', K⟩ := hcut
            go_upto_region 20 with fail
            refine LTree.start (fun W => W.heap[G]? = some (.cells #[.bool false, .int .i64 (q : Int), .int .i64 (j : Int), .int .i64 (1 + (y : Int)), .int .i64 (bl : Int), .string sv, .int .i64 0, .string ⟨#[]⟩] 36)) (.take 0 (.take 1 (.take 4 (.take 5 (.fork 2 (.fork 3 (.only 6 (.only 7 (.take 8 (.take 9 (.done))))) 6 (.only 3 (.only 7 (.take 8 (.take 9 (.done)))))) 6 (.only 2 (.only 3 (.only 7 (.take 8 (.take 9 (.done))))))))))) (by kernel_rfl) (by kernel_rfl) (by kernel_rfl) (by kernel_rfl) (K.drew.get 0 rfl) ?_
            simp only [Tree.T.map, List.getElem?_toArray, List.getElem?_cons_zero, List.getElem?_cons_succ]
            have K9 := K.drew
            clear K
            have K := K9
            clear K9
            generalize hv0 : World.drew wc = v1 at *
            clear hv0
            repeat (first | (refine LTree.take ?_ (by rfl) ?_ ?_; rotate_left; (· rintro w9 u0; go_simp; (try rw [if_neg (by omega)]); all_goals (with_reducible rfl)); simp only [Act.put, List.setIfInBounds_toArray, List.set_cons_zero, List.set_cons_succ]))
            refine LTree.take_load 36 (.tmp 9) (G) _ (by rfl) rfl (by rfl) (fun w9 h9 => h9) Try.underlying36 rfl ev_info ?_
            simp only [Act.put, List.setIfInBounds_toArray, List.set_cons_zero, List.set_cons_succ]
            repeat (first | (refine LTree.take ?_ (by rfl) ?_ ?_; rotate_left; (· rintro w9 u0; go_simp; (try rw [if_neg (by omega)]); all_goals (with_reducible rfl)); simp only [Act.put, List.setIfInBounds_toArray, List.set_cons_zero, List.set_cons_succ]))
            refine LTree.take_load 36 (.tmp 9) (G) _ (by rfl) rfl (by rfl) (fun w9 h9 => h9) Try.underlying36 rfl ev_info ?_
            simp only [Act.put, List.setIfInBounds_toArray, List.set_cons_zero, List.set_cons_succ]
            refine LTree.fork (by rfl) (by rfl) ?_ ?_
            · skip
              have K9 := K.al (.cells #[.bool false, .int .i64 (q : Int), .int .i64 (j : Int), .int .i64 (1 + (y : Int)), .int .i64 (bl : Int), .string sv, .int .i64 0, .string ⟨#[]⟩] 36 (0, 0))
              refine (Tree.wp_make (.slice (some ⟨v1.heap.size, 0, none⟩) 1 1) (v1.alloc (.cells #[.bool false, .int .i64 (q : Int), .int .i64 (j : Int), .int .i64 (1 + (y : Int)), .int .i64 (bl : Int), .string sv, .int .i64 0, .string ⟨#[]⟩] 36 (0, 0))) ?_ ⟨(K9.get 1 rfl), ?_⟩)
              · go_simp
              simp only [Act.put, List.setIfInBounds_toArray, List.set_cons_zero, List.set_cons_succ]
              clear K
              have K := K9
              clear K9
              generalize v1.heap.size = ga at *
              generalize v1.alloc (.cells #[.bool false, .int .i64 (q : Int), .int .i64 (j : Int), .int .i64 (1 + (y : Int)), .int .i64 (bl : Int), .string sv, .int .i64 0, .string ⟨#[]⟩] 36 (0, 0)) = v2 at *
              refine LTree.fork (by rfl) (by rfl) ?_ ?_
              · skip
                refine (K.app_one vrOk (.tmp 86) (.tmp 88) rfl 3 0 rfl rfl (e := ⟨false, (q : Int), (j : Int), 1 + (y : Int), (bl : Int), sv, 0, ⟨#[]⟩⟩) rfl rfl (by omega) ?_)
                intro gp cp v3 K9 _
                simp only [List.set] at K9
                refine ⟨(K9.get 1 rfl), ?_⟩
                simp only [Act.put, List.setIfInBounds_toArray, List.set_cons_zero, List.set_cons_succ]
                clear K
                have K := K9
                clear K9
                have K9 := K.al (.cells #[.bool false, .int .i64 (q : Int), .int .i64 (j : Int), .int .i64 (1 + (y : Int)), .int .i64 (bl : Int), .string sv, .int .i64 0, .string ⟨#[]⟩] 36 (0, 0))
                refine LTree.only (by rfl) (Tree.wp_make (.slice (some ⟨v3.heap.size, 0, none⟩) 1 1) (v3.alloc (.cells #[.bool false, .int .i64 (q : Int), .int .i64 (j : Int), .int .i64 (1 + (y : Int)), .int .i64 (bl : Int), .string sv, .int .i64 0, .string ⟨#[]⟩] 36 (0, 0))) ?_ ⟨(K9.get 2 rfl), ?_⟩)
                · go_simp
                simp only [Act.put, List.setIfInBounds_toArray, List.set_cons_zero, List.set_cons_succ]
                clear K
                have K := K9
                clear K9
                generalize v3.heap.size = gb at *
                generalize v3.alloc (.cells #[.bool false, .int .i64 (q : Int), .int .i64 (j : Int), .int .i64 (1 + (y : Int)), .int .i64 (bl : Int), .string sv, .int .i64 0, .string ⟨#[]⟩] 36 (0, 0)) = v4 at *
                refine LTree.only (by rfl) (K.app_one vrOk (.tmp 90) (.tmp 92) rfl 3 0 rfl rfl (e := ⟨false, (q : Int), (j : Int), 1 + (y : Int), (bl : Int), sv, 0, ⟨#[]⟩⟩) rfl rfl (by omega) ?_)
                intro go co v5 K9 _
                simp only [List.set] at K9
                refine ⟨(K9.get 2 rfl), ?_⟩
                simp only [Act.put, List.setIfInBounds_toArray, List.set_cons_zero, List.set_cons_succ]
                clear K
                have K := K9
                clear K9
                repeat (first | (refine LTree.take ?_ (by rfl) ?_ ?_; rotate_left; (· rintro w9 u0; go_simp; (try rw [if_neg (by omega)]); all_goals (with_reducible rfl)); simp only [Act.put, List.setIfInBounds_toArray, List.set_cons_zero, List.set_cons_succ]))
                refine LTree.ends ?_
                go_wp2_with fail
                have KE := K.sub [3, 4, 5] (T' := [Env.lst VR (Env.slv go (j + 1) co) (j + 1) (O ++ [⟨false, (q : Int), (j : Int), 1 + (y : Int), (bl : Int), sv, 0, ⟨#[]⟩⟩]), Env.lst VR (Env.slv gp (p + 1) cp) (p + 1) (P ++ [⟨false, (q : Int), (j : Int), 1 + (y : Int), (bl : Int), sv, 0, ⟨#[]⟩⟩]), dieT w.heap.size g zs k2]) rfl (by simp) (by simp)
                go_roundw
                case rel => exact ⟨j + 1, k2, O ++ [⟨false, (q : Int), (j : Int), 1 + (y : Int), (bl : Int), sv, 0, ⟨#[]⟩⟩], P ++ [⟨false, (q : Int), (j : Int), 1 + (y : Int), (bl : Int), sv, 0, ⟨#[]⟩⟩], by go_num, by omega, by omega, by rw [List.length_append, hO]; rfl, by rw [List.length_append, hp]; exact Nat.succ_le_succ hP, Lib.hid (by rw [Int.natCast_add]; exact HM.out.inv rfl (by show (0 : Int) ≤ (q : Int); omega) hq rfl (by omega) rfl rfl ⟨by show (1 : Int) ≤ 1 + (y : Int); omega, by show 1 + (y : Int) ≤ 4; omega, by show (0 : Int) ≤ (bl : Int); omega, by show (bl : Int) ≤ 2; omega⟩), by rw [List.length_append, hp]; exact KE⟩
                case measure => simp [intOf]; omega
              · skip
                have K9 := K.al (.cells #[.bool false, .int .i64 (q : Int), .int .i64 (j : Int), .int .i64 (1 + (y : Int)), .int .i64 (bl : Int), .string sv, .int .i64 0, .string ⟨#[]⟩] 36 (0, 0))
                refine (Tree.wp_make (.slice (some ⟨v2.heap.size, 0, none⟩) 1 1) (v2.alloc (.cells #[.bool false, .int .i64 (q : Int), .int .i64 (j : Int), .int .i64 (1 + (y : Int)), .int .i64 (bl : Int), .string sv, .int .i64 0, .string ⟨#[]⟩] 36 (0, 0))) ?_ ⟨(K9.get 2 rfl), ?_⟩)
                · go_simp
                simp only [Act.put, List.setIfInBounds_toArray, List.set_cons_zero, List.set_cons_succ]
                clear K
                have K := K9
                clear K9
                generalize v2.heap.size = gb at *
                generalize v2.alloc (.cells #[.bool false, .int .i64 (q : Int), .int .i64 (j : Int), .int .i64 (1 + (y : Int)), .int .i64 (bl : Int), .string sv, .int .i64 0, .string ⟨#[]⟩] 36 (0, 0)) = v3 at *
                refine LTree.only (by rfl) (K.app_one vrOk (.tmp 86) (.tmp 88) rfl 4 1 rfl rfl (e := ⟨false, (q : Int), (j : Int), 1 + (y : Int), (bl : Int), sv, 0, ⟨#[]⟩⟩) rfl rfl (by omega) ?_)
                intro gp cp v4 K9 _
                simp only [List.set] at K9
                refine ⟨(K9.get 2 rfl), ?_⟩
                simp only [Act.put, List.setIfInBounds_toArray, List.set_cons_zero, List.set_cons_succ]
                clear K
                have K := K9
                clear K9
                refine LTree.only (by rfl) (K.app_one vrOk (.tmp 90) (.tmp 92) rfl 3 0 rfl rfl (e := ⟨false, (q : Int), (j : Int), 1 + (y : Int), (bl : Int), sv, 0, ⟨#[]⟩⟩) rfl rfl (by omega) ?_)
                intro go co v5 K9 _
                simp only [List.set] at K9
                refine ⟨(K9.get 2 rfl), ?_⟩
                simp only [Act.put, List.setIfInBounds_toArray, List.set_cons_zero, List.set_cons_succ]
                clear K
                have K := K9
                clear K9
                repeat (first | (refine LTree.take ?_ (by rfl) ?_ ?_; rotate_left; (· rintro w9 u0; go_simp; (try rw [if_neg (by omega)]); all_goals (with_reducible rfl)); simp only [Act.put, List.setIfInBounds_toArray, List.set_cons_zero, List.set_cons_succ]))
                refine LTree.ends ?_
                go_wp2_with fail
                have KE := K.sub [3, 4, 5] (T' := [Env.lst VR (Env.slv go (j + 1) co) (j + 1) (O ++ [⟨false, (q : Int), (j : Int), 1 + (y : Int), (bl : Int), sv, 0, ⟨#[]⟩⟩]), Env.lst VR (Env.slv gp (p + 1) cp) (p + 1) (P ++ [⟨false, (q : Int), (j : Int), 1 + (y : Int), (bl : Int), sv, 0, ⟨#[]⟩⟩]), dieT w.heap.size g zs k2]) rfl (by simp) (by simp)
                go_roundw
                case rel => exact ⟨j + 1, k2, O ++ [⟨false, (q : Int), (j : Int), 1 + (y : Int), (bl : Int), sv, 0, ⟨#[]⟩⟩], P ++ [⟨false, (q : Int), (j : Int), 1 + (y : Int), (bl : Int), sv, 0, ⟨#[]⟩⟩], by go_num, by omega, by omega, by rw [List.length_append, hO]; rfl, by rw [List.length_append, hp]; exact Nat.succ_le_succ hP, Lib.hid (by rw [Int.natCast_add]; exact HM.out.inv rfl (by show (0 : Int) ≤ (q : Int); omega) hq rfl (by omega) rfl rfl ⟨by show (1 : Int) ≤ 1 + (y : Int); omega, by show 1 + (y : Int) ≤ 4; omega, by show (0 : Int) ≤ (bl : Int); omega, by show (bl : Int) ≤ 2; omega⟩), by rw [List.length_append, hp]; exact KE⟩
                case measure => simp [intOf]; omega
            · skip
              have K9 := K.al (.cells #[.bool false, .int .i64 (q : Int), .int .i64 (j : Int), .int .i64 (1 + (y : Int)), .int .i64 (bl : Int), .string sv, .int .i64 0, .string ⟨#[]⟩] 36 (0, 0))
              refine (Tree.wp_make (.slice (some ⟨v1.heap.size, 0, none⟩) 1 1) (v1.alloc (.cells #[.bool false, .int .i64 (q : Int), .int .i64 (j : Int), .int .i64 (1 + (y : Int)), .int .i64 (bl : Int), .string sv, .int .i64 0, .string ⟨#[]⟩] 36 (0, 0))) ?_ ⟨(K9.get 1 rfl), ?_⟩)
              · go_simp
              simp only [Act.put, List.setIfInBounds_toArray, List.set_cons_zero, List.set_cons_succ]
              clear K
              have K := K9
              clear K9
              generalize v1.heap.size = gb at *
              generalize v1.alloc (.cells #[.bool false, .int .i64 (q : Int), .int .i64 (j : Int), .int .i64 (1 + (y : Int)), .int .i64 (bl : Int), .string sv, .int .i64 0, .string ⟨#[]⟩] 36 (0, 0)) = v2 at *
              have K9 := K.al (.cells #[.bool false, .int .i64 (q : Int), .int .i64 (j : Int), .int .i64 (1 + (y : Int)), .int .i64 (bl : Int), .string sv, .int .i64 0, .string ⟨#[]⟩] 36 (0, 0))
              refine LTree.only (by rfl) (Tree.wp_make (.slice (some ⟨v2.heap.size, 0, none⟩) 1 1) (v2.alloc (.cells #[.bool false, .int .i64 (q : Int), .int .i64 (j : Int), .int .i64 (1 + (y : Int)), .int .i64 (bl : Int), .string sv, .int .i64 0, .string ⟨#[]⟩] 36 (0, 0))) ?_ ⟨(K9.get 2 rfl), ?_⟩)
              · go_simp
              simp only [Act.put, List.setIfInBounds_toArray, List.set_cons_zero, List.set_cons_succ]
              clear K
              have K := K9
              clear K9
              generalize v2.heap.size = ga at *
              generalize v2.alloc (.cells #[.bool false, .int .i64 (q : Int), .int .i64 (j : Int), .int .i64 (1 + (y : Int)), .int .i64 (bl : Int), .string sv, .int .i64 0, .string ⟨#[]⟩] 36 (0, 0)) = v3 at *
              refine LTree.only (by rfl) (K.app_one vrOk (.tmp 86) (.tmp 88) rfl 4 0 rfl rfl (e := ⟨false, (q : Int), (j : Int), 1 + (y : Int), (bl : Int), sv, 0, ⟨#[]⟩⟩) rfl rfl (by omega) ?_)
              intro gp cp v4 K9 _
              simp only [List.set] at K9
              refine ⟨(K9.get 2 rfl), ?_⟩
              simp only [Act.put, List.setIfInBounds_toArray, List.set_cons_zero, List.set_cons_succ]
              clear K
              have K := K9
              clear K9
              refine LTree.only (by rfl) (K.app_one vrOk (.tmp 90) (.tmp 92) rfl 3 1 rfl rfl (e := ⟨false, (q : Int), (j : Int), 1 + (y : Int), (bl : Int), sv, 0, ⟨#[]⟩⟩) rfl rfl (by omega) ?_)
              intro go co v5 K9 _
              simp only [List.set] at K9
              refine ⟨(K9.get 2 rfl), ?_⟩
              simp only [Act.put, List.setIfInBounds_toArray, List.set_cons_zero, List.set_cons_succ]
              clear K
              have K := K9
              clear K9
              repeat (first | (refine LTree.take ?_ (by rfl) ?_ ?_; rotate_left; (· rintro w9 u0; go_simp; (try rw [if_neg (by omega)]); all_goals (with_reducible rfl)); simp only [Act.put, List.setIfInBounds_toArray, List.set_cons_zero, List.set_cons_succ]))
              refine LTree.ends ?_
              go_wp2_with fail
              have KE := K.sub [3, 4, 5] (T' := [Env.lst VR (Env.slv go (j + 1) co) (j + 1) (O ++ [⟨false, (q : Int), (j : Int), 1 + (y : Int), (bl : Int), sv, 0, ⟨#[]⟩⟩]), Env.lst VR (Env.slv gp (p + 1) cp) (p + 1) (P ++ [⟨false, (q : Int), (j : Int), 1 + (y : Int), (bl : Int), sv, 0, ⟨#[]⟩⟩]), dieT w.heap.size g zs k2]) rfl (by simp) (by simp)
              go_roundw
              case rel => exact ⟨j + 1, k2, O ++ [⟨false, (q : Int), (j : Int), 1 + (y : Int), (bl : Int), sv, 0, ⟨#[]⟩⟩], P ++ [⟨false, (q : Int), (j : Int), 1 + (y : Int), (bl : Int), sv, 0, ⟨#[]⟩⟩], by go_num, by omega, by omega, by rw [List.length_append, hO]; rfl, by rw [List.length_append, hp]; exact Nat.succ_le_succ hP, Lib.hid (by rw [Int.natCast_add]; exact HM.out.inv rfl (by show (0 : Int) ≤ (q : Int); omega) hq rfl (by omega) rfl rfl ⟨by show (1 : Int) ≤ 1 + (y : Int); omega, by show 1 + (y : Int) ≤ 4; omega, by show (0 : Int) ≤ (bl : Int); omega, by show (bl : Int) ≤ 2; omega⟩), by rw [List.length_append, hp]; exact KE⟩
              case measure => simp [intOf]; omega
        · have hp0 := hb rfl
          clear hb
          obtain ⟨pg, pc9, hpe⟩ := K.val vrOk 1 rfl hp0
          obtain ⟨rfl, -, rfl⟩ : pv = some ⟨pg, 0, none⟩ ∧ p = p ∧ pc = pc9 := by cases hpe; exact ⟨rfl, rfl, rfl⟩
          clear hpe
          have hp0I : (0 : Int) < (p : Int) := by omega
          have m1 : True := trivial
          have m2 : True := trivial
          have HPK := Lib.hid (fun ik (h : ik < p) => (⟨_, List.getElem?_eq_getElem (by omega)⟩ : ∃ e, P[ik]? = some e))
          go_upto_if 41 with (first
            | (have z9 := m1; clear z9; go_at_call 25; ((with_reducible refine (K.next 2 rfl hzl _ (by omega) (by omega)).mono ?_); rintro r9 w9 ⟨ik, k9, rfl, hik, hk9, K9, -⟩; simp only [List.set] at K9; clear K m1; have K := K9; clear K9; have hik : ik < p := (by omega); obtain ⟨e, he⟩ := HPK.out ik hik; have HCL := HM.out.calls_clean he; have HE := Lib.hid he; have hc := fun f u (hu : (VR.c e)[f]? = some u) => (K.ownF vrOk 1 rfl (k := ik) (f := f) he hu).1; obtain ⟨er, eq, es, ek, eb, ed, ee, ex⟩ := e; obtain ⟨h1, h2, h3, h4, h5⟩ := HCL; simp only at h1 h2 h3 h4 h5; subst h1; subst h2; have KZ := K.al (.cells #[.bool true, .int .i64 eq, .int .i64 es, .int .i64 ek, .int .i64 eb, .string ed, .int .i64 0, .string ex] 36); have z0 := hc 0 _ rfl; have z1 := hc 1 _ rfl; have z2 := hc 2 _ rfl; have z3 := hc 3 _ rfl; have z4 := hc 4 _ rfl; have z5 := hc 5 _ rfl; have z6 := hc 6 _ rfl; have z7 := hc 7 _ rfl; simp only [show VR.sz = 8 from rfl, Nat.add_zero] at z0 z1 z2 z3 z4 z5 z6 z7; clear hc he))
            | (have z9 := m2; clear z9; go_at_call 25; (generalize w9.heap.size = G at *); ((with_reducible refine (KZ.next 3 rfl hzl _ (by omega) (by omega)).mono ?_); rintro r9 w9 ⟨y6, k9, rfl, hy6, hk9, K9, -⟩; simp only [List.set] at K9; clear K m2; have K := K9; clear K9; clear KZ z0 z1 z2 z3 z4 z5 z6 z7; obtain ⟨b0, b1, b2, b3, b4, b5, b6, b7⟩ := ev_cells (K.get 0 rfl); have f6 := K.free 0 rfl 6; have f7 := K.free 0 rfl 7)))
          go_cut [] (fun wx => ∃ (e2 : Int) (x2 : ByteArray) (k' : Nat), fitsB ek e2 x2.size = true ∧ k' ≤ k9 + 1 ∧ Env w wx [.box G (.cells #[.bool true, .int .i64 eq, .int .i64 es, .int .i64 ek, .int .i64 eb, .string ed, .int .i64 e2, .string x2] 36), Env.lst VR (.slice ov j oc) j O, Env.lst VR (.slice (some ⟨pg, 0, none⟩) p pc) p P, dieT w.heap.size g zs k'])
          case first =>
            by_cases hy5 : y6 = 5
            · have d1 : ((y6 : Int) == 5) = true := by simp; omega
              have d2 : (y6 : Int) = 5 := by omega
              go_wp2_with fail
              have K9 := K.put1 0 rfl (cs' := #[.bool true, .int .i64 eq, .int .i64 es, .int .i64 ek, .int .i64 eb, .string ed, .int .i64 7, .string ex]) 6 (.int .i64 7) rfl rfl
              simp only [List.set] at K9
              go_meet
              exact ⟨7, ex, k9, by simp [fitsB, h3], by omega, K9⟩
            · have d1 : ((y6 : Int) == 5) = false := by simp; omega
              have d2 : ¬ (y6 : Int) = 5 := by omega
              by_cases hk1 : ek = 1
              · subst hk1
                have m4 : True := trivial
                go_wp2_with (first
                  | (have z9 := m4; clear z9; go_at_call 25; ((with_reducible refine (K.next 3 rfl hzl _ (by omega) (by omega)).mono ?_); rintro r9 w9 ⟨dv, k9, rfl, hdv, hk9, K9, -⟩; simp only [List.set] at K9; clear K m4; have K := K9; clear K9))
                  | (go_at_call 26; ((with_reducible refine (value_any dv (by omega) _).mono ?_); rintro r9 w11 ⟨rfl, hb⟩; have K9 := K.on hb; clear K hb; have K := K9; clear K9; have hsv : (⟨(valueL dv).toArray⟩ : ByteArray).size = 16 := value_length dv; generalize (⟨(valueL dv).toArray⟩ : ByteArray) = sv at *; clear b0 b1 b2 b3 b4 b5 b6 b7; obtain ⟨b0, b1, b2, b3, b4, b5, b6, b7⟩ := ev_cells (K.get 0 rfl); have f5 := K.free 0 rfl 5; have f7 := K.free 0 rfl 7)))
                have K9 := K.put1 0 rfl (cs' := #[.bool true, .int .i64 eq, .int .i64 es, .int .i64 1, .int .i64 eb, .string ed, .int .i64 0, .string sv]) 7 (.string sv) rfl rfl
                simp only [List.set] at K9
                go_meet
                exact ⟨0, sv, k9, by simp [fitsB, hsv], by omega, K9⟩
              · have d3 : (ek == 1) = false := by simpa using hk1
                go_wp2_with fail
                go_meet
                exact ⟨0, ex, k9, by simp [fitsB, hk1, h3], by omega, K⟩
          case rest =>
            clear K b0 b1 b2 b3 b4 b5 b6 b7 f6 f7
            obtain ⟨e2, x2, k2, hf2, hk2', K⟩ := hcut
            have KB := K.al (.cells #[.bool true, .int .i64 eq, .int .i64 es, .int .i64 ek, .int .i64 eb, .string ed, .int .i64 e2, .string x2] 36)
            go_upto_region 16 with (first
              | ((with_reducible refine Plan.load_lit 36 (.tmp 8) G ?_ (K.get 0 rfl) Try.underlying36 ?_ ?_ ?_); (· rfl); (· rfl); (· exact ev_info); simp only [Act.put, List.setIfInBounds_toArray, List.set_cons_zero, List.set_cons_succ])
              | (refine KB.apps_one vrOk rfl (.tmp 53) (.tmp 55) rfl 2 0 rfl rfl (e := ⟨true, eq, es, ek, eb, ed, e2, x2⟩) rfl rfl (by omega) ?_; intro go co w3 K8 k8; simp only [List.set] at K8 k8; simp only [Act.put, List.setIfInBounds_toArray, List.set_cons_zero, List.set_cons_succ]; clear KB K k8))
            have K := K8.drew
            clear K8
            obtain ⟨ik1, hik1⟩ : ∃ ik1, ik1 = ik + 1 := ⟨_, rfl⟩
            have hl := K.list vrOk 3 rfl
            have hikp : ik ≤ p := by omega
            have hik1p : ik1 ≤ p := by omega
            obtain ⟨hcp, hcm⟩ := hl.cap
            unfold maxLen at hcm
            have hikc : ik ≤ pc := by omega
            have hik1c : ik1 ≤ pc := by omega
            have hlenQ : (P.take ik ++ P.drop ik1).length = ik + (p - ik1) := by rw [List.length_append, List.length_take, List.length_drop, hp]; omega
            have HLQ := Lib.hid hlenQ
            have HB1 := Lib.hid (And.intro (by omega) (by omega) : ik ≤ 1000000 ∧ ik + (p - ik1) ≤ 1000000)
            have HMQ : RowKit.Hid (Made (O ++ [(⟨true, eq, es, ek, eb, ed, e2, x2⟩ : Ev)]) (P.take ik ++ P.drop ik1) ((j + 1 : Nat) : Int)) := Lib.hid (by
              rw [hik1]
              exact HM.out.ret (x := ⟨true, eq, es, ek, eb, ed, e2, x2⟩) HE.out rfl rfl rfl rfl rfl rfl hf2 _ (by omega))
            have HQ9 := Lib.hid (show ik + (p - ik1) ≤ j + 1 by omega)
            have HK9 := Lib.hid (show k2 ≤ 8 * (j + 1) by omega)
            have HJ9 := Lib.hid (show j + 1 ≤ 60 by omega)
            have HO9 := Lib.hid (show (O ++ [(⟨true, eq, es, ek, eb, ed, e2, x2⟩ : Ev)]).length = j + 1 by rw [List.length_append, hO]; rfl)
            have hle1 : (ik1 : Int) ≤ (p : Int) := by omega
            have hw1 : IntKind.i64.wrap ((ik : Int) + 1) = (ik1 : Int) := by rw [IntWalk.i64_in _ (by omega)]; omega
            have hw2 : wrap64 ((ik : Int) + 1) = (ik1 : Int) := by clear hw1; unfold wrap64; omega
            clear hik1 hl hO hP hj hk hik hk1 hk2' hf2 h3 h4 h5 hk2 hj2 hlenQ HM HE HPK hp
            by_cases hpc : pc = ik1
            · obtain rfl : p = pc := (by clear hw1 hw2; omega)
              subst hpc
              simp only [Nat.sub_self, Nat.add_zero] at HLQ HQ9 HB1
              refine Plan.start (fun W => True) [(1, true), (2, true), (3, true), (5, true), (6, true), (7, true), (8, true), (0, false), (4, false), (9, false), (10, true)] (by kernel_rfl) (by kernel_rfl) (by kernel_rfl) (by kernel_rfl) trivial ?_
              simp only [List.map_cons, List.map_nil, List.getElem?_toArray, List.getElem?_cons_zero, List.getElem?_cons_succ]
              generalize World.drew _ = w4 at *
              repeat (first | (refine Plan.take ?_ (by rfl) ?_ ?_; rotate_left; (· rintro w9 -; go_simp; (try rw [if_neg (by omega)]); all_goals (with_reducible rfl)); simp only [Act.put, List.setIfInBounds_toArray, List.set_cons_zero, List.set_cons_succ]) | (refine Plan.pass (by rfl) ?_; simp only [Act.put, List.setIfInBounds_toArray, List.set_cons_zero, List.set_cons_succ]))
              have K9 : Env w (w4.alloc (.cells #[] 36)) (Env.lst VR (Env.slv w4.heap.size 0 0) 0 [] :: _) := K.empty VR
              refine Plan.make (by rfl) (.slice (some ⟨w4.heap.size, 0, none⟩) 0 0) (w4.alloc (.cells #[] 36)) ?_ trivial ?_
              · go_simp
              simp only [Act.put, List.setIfInBounds_toArray, List.set_cons_zero, List.set_cons_succ]
              clear K
              have K := K9
              clear K9
              generalize w4.heap.size = gC at *
              generalize w4.alloc (.cells #[] 36) = w5 at *
              refine Plan.carry (by rfl) (K.app_list vrOk (.tmp 57) (.tmp 60) rfl 0 rfl rfl rfl ((K.list vrOk 4 rfl).front vrOk ik hikp) (by rw [Nat.zero_add]; exact HB1.out.1) ?_)
              intro gC cC w6 K9 _
              simp only [List.set, Nat.zero_add, List.nil_append] at K9
              refine ⟨trivial, ?_⟩
              simp only [Nat.zero_add, Act.put, List.setIfInBounds_toArray, List.set_cons_zero, List.set_cons_succ]
              clear K
              have K := K9
              clear K9
              refine Plan.carry (by rfl) (K.app_list vrOk (.tmp 61) (.tmp 65) rfl 0 rfl rfl rfl ((show TList VR _ (fun b => w.heap.size ≤ b) (some ⟨pg, 0, none⟩) 0 0 (P.drop p) from by have h9 := rest_list vrOk (K.list vrOk 4 rfl) (Nat.le_refl p) hp0; rw [if_pos rfl, Nat.sub_self] at h9; exact h9)) HB1.out.2 ?_)
              intro gD cD w7 K9 _
              simp only [List.set] at K9
              refine ⟨trivial, ?_⟩
              simp only [Act.put, List.setIfInBounds_toArray, List.set_cons_zero, List.set_cons_succ]
              clear K
              have K := K9
              clear K9
              repeat (first | (refine Plan.take ?_ (by rfl) ?_ ?_; rotate_left; (· rintro w9 -; go_simp; (try rw [if_neg (by omega)]); all_goals (with_reducible rfl)); simp only [Act.put, List.setIfInBounds_toArray, List.set_cons_zero, List.set_cons_succ]) | (refine Plan.pass (by rfl) ?_; simp only [Act.put, List.setIfInBounds_toArray, List.set_cons_zero, List.set_cons_succ]))
              refine Plan.ends ?_
              go_wp2_with fail
              have KE := K.sub (T' := [Env.lst VR (Env.slv go (j + 1) co) (j + 1) (O ++ [⟨true, eq, es, ek, eb, ed, e2, x2⟩]), Env.lst VR (Env.slv gD (ik) cD) (ik) (P.take ik ++ P.drop p), dieT w.heap.size g zs k2]) [3, 0, 5] rfl (by simp) (by simp)
              go_roundw
              case rel => exact ⟨j + 1, k2, O ++ [⟨true, eq, es, ek, eb, ed, e2, x2⟩], P.take ik ++ P.drop p, by go_num, HJ9.out, HK9.out, HO9.out, by rw [HLQ.out]; exact HQ9.out, HMQ, by rw [HLQ.out]; exact KE⟩
              case measure => simp [intOf]; omega
            · have hpc2 : ik1 < pc := (by clear hw1 hw2; omega)
              refine Plan.start (fun W => True) [(1, true), (2, true), (3, true), (5, true), (6, true), (7, true), (8, true), (0, false), (4, false), (9, false), (10, true)] (by kernel_rfl) (by kernel_rfl) (by kernel_rfl) (by kernel_rfl) trivial ?_
              simp only [List.map_cons, List.map_nil, List.getElem?_toArray, List.getElem?_cons_zero, List.getElem?_cons_succ]
              generalize World.drew _ = w4 at *
              repeat (first | (refine Plan.take ?_ (by rfl) ?_ ?_; rotate_left; (· rintro w9 -; go_simp; (try rw [if_neg (by omega)]); all_goals (with_reducible rfl)); simp only [Act.put, List.setIfInBounds_toArray, List.set_cons_zero, List.set_cons_succ]) | (refine Plan.pass (by rfl) ?_; simp only [Act.put, List.setIfInBounds_toArray, List.set_cons_zero, List.set_cons_succ]))
              have K9 : Env w (w4.alloc (.cells #[] 36)) (Env.lst VR (Env.slv w4.heap.size 0 0) 0 [] :: _) := K.empty VR
              refine Plan.make (by rfl) (.slice (some ⟨w4.heap.size, 0, none⟩) 0 0) (w4.alloc (.cells #[] 36)) ?_ trivial ?_
              · go_simp
              simp only [Act.put, List.setIfInBounds_toArray, List.set_cons_zero, List.set_cons_succ]
              clear K
              have K := K9
              clear K9
              generalize w4.heap.size = gC at *
              generalize w4.alloc (.cells #[] 36) = w5 at *
              refine Plan.carry (by rfl) (K.app_list vrOk (.tmp 57) (.tmp 60) rfl 0 rfl rfl rfl ((K.list vrOk 4 rfl).front vrOk ik hikp) (by rw [Nat.zero_add]; exact HB1.out.1) ?_)
              intro gC cC w6 K9 _
              simp only [List.set, Nat.zero_add, List.nil_append] at K9
              refine ⟨trivial, ?_⟩
              simp only [Nat.zero_add, Act.put, List.setIfInBounds_toArray, List.set_cons_zero, List.set_cons_succ]
              clear K
              have K := K9
              clear K9
              refine Plan.carry (by rfl) (K.app_list vrOk (.tmp 61) (.tmp 65) rfl 0 rfl rfl rfl ((show TList VR _ (fun b => w.heap.size ≤ b) (some ⟨pg, ik1 * 8, none⟩) (p - ik1) (pc - ik1) (P.drop ik1) from by have h9 := rest_list vrOk (K.list vrOk 4 rfl) hik1p hp0; rwa [if_neg hpc] at h9)) HB1.out.2 ?_)
              intro gD cD w7 K9 _
              simp only [List.set] at K9
              refine ⟨trivial, ?_⟩
              simp only [Act.put, List.setIfInBounds_toArray, List.set_cons_zero, List.set_cons_succ]
              clear K
              have K := K9
              clear K9
              repeat (first | (refine Plan.take ?_ (by rfl) ?_ ?_; rotate_left; (· rintro w9 -; go_simp; (try rw [if_neg (by omega)]); all_goals (with_reducible rfl)); simp only [Act.put, List.setIfInBounds_toArray, List.set_cons_zero, List.set_cons_succ]) | (refine Plan.pass (by rfl) ?_; simp only [Act.put, List.setIfInBounds_toArray, List.set_cons_zero, List.set_cons_succ]))
              refine Plan.ends ?_
              go_wp2_with fail
              have KE := K.sub (T' := [Env.lst VR (Env.slv go (j + 1) co) (j + 1) (O ++ [⟨true, eq, es, ek, eb, ed, e2, x2⟩]), Env.lst VR (Env.slv gD (ik + (p - ik1)) cD) (ik + (p - ik1)) (P.take ik ++ P.drop ik1), dieT w.heap.size g zs k2]) [3, 0, 5] rfl (by simp) (by simp)
              go_roundw
              case rel => exact ⟨j + 1, k2, O ++ [⟨true, eq, es, ek, eb, ed, e2, x2⟩], P.take ik ++ P.drop ik1, by go_num, HJ9.out, HK9.out, HO9.out, by rw [HLQ.out]; exact HQ9.out, HMQ, by rw [HLQ.out]; exact KE⟩
              case measure => simp [intOf]; omega
    · have ovn : ∃ a c, u4 = .slice a j c := by
        obtain ⟨a, c, e, _⟩ := K.any vrOk 0 rfl
        exact ⟨a, c, e⟩
      obtain ⟨ov, oc, rfl⟩ := ovn
      by_cases hk2 : k < zs.length
      · have hj2 : ¬ (j : Int) < 60 := by omega
        have hj3 : decide ((j : Int) < 60) = false := decide_eq_false hj2
        have hM : 0 < max (0 : Int) ((zs.length : Int) - (k : Int)) := by rw [Int.max_eq_right (by omega)]; omega
        generalize max (0 : Int) ((zs.length : Int) - (k : Int)) = M at *
        clear hgo
        go_wp2_with (first
          | (go_at_call 24; ((with_reducible refine (HD.out _ (K.die 2 rfl)).mono ?_); rintro r9 w5 ⟨rfl, rfl⟩; replace K := K.drew)))
        go_ret
        first | exact ⟨_, O, rfl, (by rw [hO]; exact K.own 0 rfl), K.hb, HM.out.right, (by omega), HM.out.cmd⟩ | exact ⟨_, rfl, O, (by rw [hO]; exact K.own 0 rfl), K.hb, HM.out.right, (by omega), HM.out.cmd⟩
      · have hM : ¬ 0 < max (0 : Int) ((zs.length : Int) - (k : Int)) := by rw [Int.max_eq_left (by omega)]; omega
        generalize max (0 : Int) ((zs.length : Int) - (k : Int)) = M at *
        clear hgo
        go_wp2_with (first
          | (go_at_call 24; ((with_reducible refine (HD.out _ (K.die 2 rfl)).mono ?_); rintro r9 w5 ⟨rfl, rfl⟩; replace K := K.drew)))
        go_ret
        first | exact ⟨_, O, rfl, (by rw [hO]; exact K.own 0 rfl), K.hb, HM.out.right, (by omega), HM.out.cmd⟩ | exact ⟨_, rfl, O, (by rw [hO]; exact K.own 0 rfl), K.hb, HM.out.right, (by omega), HM.out.cmd⟩
end Go.Proofs.Ytkamadeekkccgaa.Ents

/- The walks of HistoryRaw and HistoryOrder. -/
namespace Go.Proofs.Ytkamadeekkccgaa.Ents
open Go.RowKit Plan HisMath Rws Env LayMath
set_option maxHeartbeats 8000000 in
set_option maxRecDepth 20000 in
theorem hisRaw_any (H : HistoryOk) (F : Nat → Prop) (L : List Ev) (b : Int) (a : Option Addr) (n c : Nat) (s t k : Int) (w : World) (hl : VList w F a n c L) :
    Calls Try.prog 3 #[.int .i64 b, .slice a n c, .int .i64 s, .int .i64 t, .int .i64 k] w fun r w' => r = .returned (.bool true) ∧ Below w.heap.size w w' := by
  have HW := Lib.hid (fun W => hisAwake_any H W)
  have hb := Below.refl w.heap.size w
  by_cases hm : n ≤ 120
  · have HA := Lib.hid (fun W (h : Below w.heap.size w W) => hisAgree_any H _ L b a n c s t k W (hl.same h) (by omega))
    have t1 : ¬ (120 : Int) < (n : Int) := by omega
    have t2 : decide (120 < n) = false := decide_eq_false (by omega)
    clear hl
    go_enter Try.func3, Try.ntmps3
    go_wp2_with (first
      | (go_at_call 7; ((with_reducible refine (HA.out _ hb).mono ?_); rintro r9 w9 ⟨rfl, h9⟩; replace hb := hb.trans (h9.mono hb.size); clear h9))
      | (go_at_call 8; ((with_reducible refine (HW.out _).mono ?_); rintro r9 w9 ⟨rfl, h9⟩; replace hb := hb.trans (h9.mono hb.size); clear h9)))
    go_ret
    exact ⟨rfl, hb⟩
  · have t1 : (120 : Int) < (n : Int) := by omega
    have t2 : decide (120 < n) = true := decide_eq_true (by omega)
    clear hl
    go_enter Try.func3, Try.ntmps3
    go_wp2_with (first
      | (go_at_call 8; ((with_reducible refine (HW.out _).mono ?_); rintro r9 w9 ⟨rfl, h9⟩; replace hb := hb.trans (h9.mono hb.size); clear h9)))
    go_ret
    exact ⟨rfl, hb⟩
set_option maxHeartbeats 8000000 in
set_option maxRecDepth 20000 in
theorem hisOrder_any (H : HistoryOk) (a : Option Addr) (n c : Nat) (Z : List Int) (x y z : Int) (m : Int) (w : World) (hz : IsRow .i64 w a n c Z) (hx0 : 0 ≤ x ∧ x ≤ 255) (hy0 : 0 ≤ y ∧ y ≤ 255) (hz0 : 0 ≤ z ∧ z ≤ 255) :
    Calls Try.prog 5 #[.slice a n c, .int .u8 x, .int .u8 y, .int .u8 z, .int .i64 m] w fun r w' => r = .returned (.bool true) ∧ Below w.heap.size w w' := by
  have HW := Lib.hid (fun W => hisAwake_any H W)
  have HL := Lib.hid (fun W => light_any a n c W)
  have hb := Below.refl w.heap.size w
  by_cases hm : n ≤ 300
  · have t1 : (n : Int) ≤ 300 := by omega
    have t2 : decide ((n : Int) ≤ 300) = true := decide_eq_true t1
    rw [t2] at HL
    have HMD := Lib.hid (hisMade_any a n c Z w hz hm)
    unfold HMadePost at HMD
    clear hz
    obtain ⟨x0, hxx⟩ := hx0
    obtain ⟨y0, hyy⟩ := hy0
    obtain ⟨z0, hzz⟩ := hz0
    go_enter Try.func5, Try.ntmps5
    go_upto_region 5 with (first
      | (go_at_call 9; ((with_reducible refine (HL.out _).mono ?_); rintro r9 w9 ⟨rfl, rfl⟩))
      | (go_at_call 10; ((with_reducible refine (HMD.out).mono ?_); rintro r9 w1 ⟨v, X, rfl, ho, h9, hri, hx60, hcm⟩; replace hb := hb.trans h9; clear h9)))
    generalize x % 30 = s at *
    generalize y % 30 = t at *
    generalize z % 30 = u at *
    obtain ⟨va, vc, rfl, lX⟩ := owns_list (F := fun b => w.heap.size ≤ b) vrOk ho (fun b hb => (ho.lt b hb).1)
    obtain ⟨hc1, hc2⟩ := lX.cap
    unfold maxLen at hc2
    clear ho HMD HL t1 t2
    have h1 := Below.refl w1.heap.size w1
    have hw1 := Lib.hid hb
    clear hb
    have hb := h1
    clear h1
    have HB := Lib.hid (fun W (h : Below w1.heap.size w1 W) p q r (e : beforeB X p q = r) => (show Calls Try.prog 13 #[.slice va X.length vc, .int .i64 p, .int .i64 q] W fun r' W' => r' = .returned (.bool r) ∧ Below W.heap.size W W' from by rw [← e]; exact H.before _ X va X.length vc p q W (lX.same h) (by omega)))
    have e0 := before_irr hri s
    have e1 : beforeB X s t = true → beforeB X t s = false := before_asym hri
    have e2 : beforeB X s t = true → beforeB X t u = true → beforeB X s u = true := before_trans hri
    obtain ⟨k, hk, hkn⟩ : ∃ k : Nat, m % ((X.length : Int) + 1) = (k : Int) ∧ k ≤ X.length := by
      have g1 := Int.emod_nonneg m (show (X.length : Int) + 1 ≠ 0 by omega)
      have g2 := Int.emod_lt_of_pos m (show (0 : Int) < (X.length : Int) + 1 by omega)
      exact ⟨(m % ((X.length : Int) + 1)).toNat, by omega, by omega⟩
    have HM := Lib.hid (fun W => mod_any m ((X.length : Int) + 1) (by omega) (by omega) W)
    rw [hk] at HM
    have HCK := Lib.hid (fun W (h : Below w1.heap.size w1 W) => H.check _ (X.take k) 3 va k vc W ((lX.same h).front vrOk k hkn) (by omega))
    rw [check_right (right_take hri k) (by decide) (by decide) (by rw [List.length_take]; omega)] at HCK
    have hkc : k ≤ vc := by omega
    have hkI : (k : Int) ≤ (vc : Int) := by omega
    clear hri hcm lX hk
    have hwr : wrap64 ((X.length : Int) + 1) = (X.length : Int) + 1 := by unfold wrap64; omega
    generalize X.length = N at *
    cases hP : beforeB X s t
    · have HST := Lib.hid (fun W h => HB.out W h s t _ hP)
      have HSS := Lib.hid (fun W h => HB.out W h s s _ e0)
      cases hR : beforeB X t u
      · skip
        go_wp2_with (first
          | (go_at_call 13; ((with_reducible refine (HSS.out _ hb).mono ?_); rintro r9 w9 ⟨rfl, h9⟩; replace hb := hb.trans (h9.mono hb.size); clear h9))
          | (go_at_call 13; ((with_reducible refine (HST.out _ hb).mono ?_); rintro r9 w9 ⟨rfl, h9⟩; replace hb := hb.trans (h9.mono hb.size); clear h9))
          | (go_at_call 13; ((with_reducible refine (HTS.out _ hb).mono ?_); rintro r9 w9 ⟨rfl, h9⟩; replace hb := hb.trans (h9.mono hb.size); clear h9))
          | (go_at_call 13; ((with_reducible refine (HTU.out _ hb).mono ?_); rintro r9 w9 ⟨rfl, h9⟩; replace hb := hb.trans (h9.mono hb.size); clear h9))
          | (go_at_call 13; ((with_reducible refine (HSU.out _ hb).mono ?_); rintro r9 w9 ⟨rfl, h9⟩; replace hb := hb.trans (h9.mono hb.size); clear h9))
          | (go_at_call 12; ((with_reducible refine (HM.out _).mono ?_); rintro r9 w9 ⟨rfl, rfl⟩))
          | (go_at_call 14; ((with_reducible refine (HCK.out _ hb).mono ?_); rintro r9 w9 ⟨rfl, h9⟩; replace hb := hb.trans (h9.mono hb.size); clear h9))
          | (go_at_call 8; ((with_reducible refine (HW.out _).mono ?_); rintro r9 w9 ⟨rfl, h9⟩; replace hb := hb.trans (h9.mono hb.size); clear h9)))
        go_ret
        exact ⟨rfl, hw1.out.trans (hb.mono hw1.out.size)⟩
      · skip
        go_wp2_with (first
          | (go_at_call 13; ((with_reducible refine (HSS.out _ hb).mono ?_); rintro r9 w9 ⟨rfl, h9⟩; replace hb := hb.trans (h9.mono hb.size); clear h9))
          | (go_at_call 13; ((with_reducible refine (HST.out _ hb).mono ?_); rintro r9 w9 ⟨rfl, h9⟩; replace hb := hb.trans (h9.mono hb.size); clear h9))
          | (go_at_call 13; ((with_reducible refine (HTS.out _ hb).mono ?_); rintro r9 w9 ⟨rfl, h9⟩; replace hb := hb.trans (h9.mono hb.size); clear h9))
          | (go_at_call 13; ((with_reducible refine (HTU.out _ hb).mono ?_); rintro r9 w9 ⟨rfl, h9⟩; replace hb := hb.trans (h9.mono hb.size); clear h9))
          | (go_at_call 13; ((with_reducible refine (HSU.out _ hb).mono ?_); rintro r9 w9 ⟨rfl, h9⟩; replace hb := hb.trans (h9.mono hb.size); clear h9))
          | (go_at_call 12; ((with_reducible refine (HM.out _).mono ?_); rintro r9 w9 ⟨rfl, rfl⟩))
          | (go_at_call 14; ((with_reducible refine (HCK.out _ hb).mono ?_); rintro r9 w9 ⟨rfl, h9⟩; replace hb := hb.trans (h9.mono hb.size); clear h9))
          | (go_at_call 8; ((with_reducible refine (HW.out _).mono ?_); rintro r9 w9 ⟨rfl, h9⟩; replace hb := hb.trans (h9.mono hb.size); clear h9)))
        go_ret
        exact ⟨rfl, hw1.out.trans (hb.mono hw1.out.size)⟩
    · have hQ := e1 hP
      have HST := Lib.hid (fun W h => HB.out W h s t _ hP)
      have HTS := Lib.hid (fun W h => HB.out W h t s _ hQ)
      have HSS := Lib.hid (fun W h => HB.out W h s s _ e0)
      cases hR : beforeB X t u
      · have HTU := Lib.hid (fun W h => HB.out W h t u _ hR)
        go_wp2_with (first
          | (go_at_call 13; ((with_reducible refine (HSS.out _ hb).mono ?_); rintro r9 w9 ⟨rfl, h9⟩; replace hb := hb.trans (h9.mono hb.size); clear h9))
          | (go_at_call 13; ((with_reducible refine (HST.out _ hb).mono ?_); rintro r9 w9 ⟨rfl, h9⟩; replace hb := hb.trans (h9.mono hb.size); clear h9))
          | (go_at_call 13; ((with_reducible refine (HTS.out _ hb).mono ?_); rintro r9 w9 ⟨rfl, h9⟩; replace hb := hb.trans (h9.mono hb.size); clear h9))
          | (go_at_call 13; ((with_reducible refine (HTU.out _ hb).mono ?_); rintro r9 w9 ⟨rfl, h9⟩; replace hb := hb.trans (h9.mono hb.size); clear h9))
          | (go_at_call 13; ((with_reducible refine (HSU.out _ hb).mono ?_); rintro r9 w9 ⟨rfl, h9⟩; replace hb := hb.trans (h9.mono hb.size); clear h9))
          | (go_at_call 12; ((with_reducible refine (HM.out _).mono ?_); rintro r9 w9 ⟨rfl, rfl⟩))
          | (go_at_call 14; ((with_reducible refine (HCK.out _ hb).mono ?_); rintro r9 w9 ⟨rfl, h9⟩; replace hb := hb.trans (h9.mono hb.size); clear h9))
          | (go_at_call 8; ((with_reducible refine (HW.out _).mono ?_); rintro r9 w9 ⟨rfl, h9⟩; replace hb := hb.trans (h9.mono hb.size); clear h9)))
        go_ret
        exact ⟨rfl, hw1.out.trans (hb.mono hw1.out.size)⟩
      · have HTU := Lib.hid (fun W h => HB.out W h t u _ hR)
        have HSU := Lib.hid (fun W h => HB.out W h s u _ (e2 hP hR))
        go_wp2_with (first
          | (go_at_call 13; ((with_reducible refine (HSS.out _ hb).mono ?_); rintro r9 w9 ⟨rfl, h9⟩; replace hb := hb.trans (h9.mono hb.size); clear h9))
          | (go_at_call 13; ((with_reducible refine (HST.out _ hb).mono ?_); rintro r9 w9 ⟨rfl, h9⟩; replace hb := hb.trans (h9.mono hb.size); clear h9))
          | (go_at_call 13; ((with_reducible refine (HTS.out _ hb).mono ?_); rintro r9 w9 ⟨rfl, h9⟩; replace hb := hb.trans (h9.mono hb.size); clear h9))
          | (go_at_call 13; ((with_reducible refine (HTU.out _ hb).mono ?_); rintro r9 w9 ⟨rfl, h9⟩; replace hb := hb.trans (h9.mono hb.size); clear h9))
          | (go_at_call 13; ((with_reducible refine (HSU.out _ hb).mono ?_); rintro r9 w9 ⟨rfl, h9⟩; replace hb := hb.trans (h9.mono hb.size); clear h9))
          | (go_at_call 12; ((with_reducible refine (HM.out _).mono ?_); rintro r9 w9 ⟨rfl, rfl⟩))
          | (go_at_call 14; ((with_reducible refine (HCK.out _ hb).mono ?_); rintro r9 w9 ⟨rfl, h9⟩; replace hb := hb.trans (h9.mono hb.size); clear h9))
          | (go_at_call 8; ((with_reducible refine (HW.out _).mono ?_); rintro r9 w9 ⟨rfl, h9⟩; replace hb := hb.trans (h9.mono hb.size); clear h9)))
        go_ret
        exact ⟨rfl, hw1.out.trans (hb.mono hw1.out.size)⟩
  · have t1 : ¬ (n : Int) ≤ 300 := by omega
    have t2 : decide ((n : Int) ≤ 300) = false := decide_eq_false t1
    rw [t2] at HL
    clear hz
    go_enter Try.func5, Try.ntmps5
    go_wp2_with (first
      | (go_at_call 9; ((with_reducible refine (HL.out _).mono ?_); rintro r9 w9 ⟨rfl, rfl⟩))
      | (go_at_call 8; ((with_reducible refine (HW.out _).mono ?_); rintro r9 w9 ⟨rfl, h9⟩; replace hb := hb.trans (h9.mono hb.size); clear h9)))
    go_ret
    exact ⟨rfl, hb⟩
end Go.Proofs.Ytkamadeekkccgaa.Ents

/- HistoryOrder: Before is a strict order on the operations of a right history, and the beginnings of a right history are right. No condition. -/
namespace Go.Proofs.Ytkamadeekkccgaa.historyOrder
open Go.ChangeShapes Go.WideShapes Go.ChangeAt Go.RowKit
open Go.ChangeMaps (open_string shut_string)
set_option linter.unusedVariables false

theorem own : ownKnob Try.prog.godebug = none := by kernel_rfl
theorem laidOut : laidOutB Try.prog = true := by kernel_rfl

theorem walk (a0 : Option Addr) (l0 c0 : Nat) (z0 : List Int) (a1 : Int) (w1 : (Lit.int .u8 a1).wf = true) (a2 : Int) (w2 : (Lit.int .u8 a2).wf = true) (a3 : Int) (w3 : (Lit.int .u8 a3).wf = true) (a4 : Int) (w4 : (Lit.int .i64 a4).wf = true) (w : World) (w0 : IsRow .i64 w a0 l0 c0 z0) :
    Calls Try.prog 5 #[.slice a0 l0 c0, .int .u8 a1, .int .u8 a2, .int .u8 a3, .int .i64 a4] w fun e w' => e = .returned (.bool true) ∧ Below w.heap.size w w' := by
  exact Ents.hisOrder_any Ents.historyOk a0 l0 c0 z0 a1 a2 a3 a4 w w0 (by have e1 : IntKind.u8.min = 0 := rfl; have e2 : IntKind.u8.max = 255 := rfl; simp only [Lit.wf, decide_eq_true_eq, Bool.and_eq_true] at w1; omega) (by have e1 : IntKind.u8.min = 0 := rfl; have e2 : IntKind.u8.max = 255 := rfl; simp only [Lit.wf, decide_eq_true_eq, Bool.and_eq_true] at w2; omega) (by have e1 : IntKind.u8.min = 0 := rfl; have e2 : IntKind.u8.max = 255 := rfl; simp only [Lit.wf, decide_eq_true_eq, Bool.and_eq_true] at w3; omega)

set_option maxRecDepth 100000 in
theorem lifted (os : Os) (started : os.Started) (H : Type) (enc : TypeId × Value → H) :
    ReturnsInHanded {} Try.checked os 5 .any (Rows.historyOrderSpec.pre6 enc Try.prog Try.f5 Rows.historyOrderRow.domain false) (Rows.historyOrderSpec.post enc Try.prog Try.f5 false true false false) := by
  refine returnsInHanded_of_change (C := Try.checked) own started (by kernel_rfl) Try.func5
    (ChangeSpec.witness6 (enc := enc) (C := Try.checked) false ⟨#[], #[.slice none 0 0, .int .u8 0, .int .u8 0, .int .u8 0, .int .i64 0], []⟩ 8 (by kernel_rfl) (by kernel_rfl) (by kernel_rfl) (by kernel_rfl)) ?_
  intro W base args ds gs before hval0 hW hcnd _
  have hval : ∀ (j : Nat) t v, Try.f5.params[j]? = some t → args[j]? = some v → Value.okWide Try.prog W .any base t v := hval0
  have hW' := hW
  obtain ⟨p, q, hA0, hV, rfl, hfz, hnd⟩ := hW
  have hA : DataW.TrodAll enc Try.prog W 0 (fun _ => true) true Try.f5.params.toList args.toList ds p := hA0
  rw [Try.params5] at hA hval
  obtain ⟨v0, vs0, d0, ds0, p0, q0, hargs, rfl, rfl, h0, r0⟩ := trodAll_cons hA
  obtain ⟨v1, vs1, d1, ds1, p1, q1, rfl, rfl, rfl, h1, r1⟩ := trodAll_cons r0
  obtain ⟨v2, vs2, d2, ds2, p2, q2, rfl, rfl, rfl, h2, r2⟩ := trodAll_cons r1
  obtain ⟨v3, vs3, d3, ds3, p3, q3, rfl, rfl, rfl, h3, r3⟩ := trodAll_cons r2
  obtain ⟨v4, vs4, d4, ds4, p4, q4, rfl, rfl, rfl, h4, r4⟩ := trodAll_cons r3
  obtain ⟨rfl, rfl, rfl⟩ := trodAll_nil r4
  obtain rfl : args = #[v0, v1, v2, v3, v4] := by cases args; simp_all
  obtain ⟨rfl, rfl⟩ := trodVars_none hV
  have k0' := h0
  have lt0 : ∀ x ∈ p0, x.block < W.heap.size := by obtain ⟨m, hm⟩ := h0; exact DataW.trod_lt m _ _ _ hm
  have k1' := h1
  have lt1 : ∀ x ∈ p1, x.block < W.heap.size := by obtain ⟨m, hm⟩ := h1; exact DataW.trod_lt m _ _ _ hm
  have k2' := h2
  have lt2 : ∀ x ∈ p2, x.block < W.heap.size := by obtain ⟨m, hm⟩ := h2; exact DataW.trod_lt m _ _ _ hm
  have k3' := h3
  have lt3 : ∀ x ∈ p3, x.block < W.heap.size := by obtain ⟨m, hm⟩ := h3; exact DataW.trod_lt m _ _ _ hm
  have k4' := h4
  have lt4 : ∀ x ∈ p4, x.block < W.heap.size := by obtain ⟨m, hm⟩ := h4; exact DataW.trod_lt m _ _ _ hm
  obtain ⟨a0, l0, c0, rfl⟩ := okWide_slice Try.underlying25 (hval 0 25 v0 rfl rfl)
  obtain ⟨z0, w0⟩ : ∃ zs, IsRow .i64 W a0 l0 c0 zs := by
    obtain ⟨fuel, hf⟩ := h0
    rcases open_ints Try.underlying25 Try.underlying3 (by kernel_rfl) hf with ⟨hcs, _⟩ | ⟨x, l, c, zs, hcs, _, hl, hm, hz, _, hcell, hwz⟩
    · simp [Value.cells] at hcs
      obtain ⟨rfl, rfl, rfl⟩ := hcs
      exact ⟨[], .inl ⟨rfl, rfl, rfl, rfl⟩⟩
    · simp [Value.cells] at hcs
      obtain ⟨rfl, rfl, rfl⟩ := hcs
      exact ⟨zs, .inr ⟨_, rfl, hl, hm, by simpa using hz, hcell, hwz⟩⟩
  obtain ⟨a1, rfl, _, _, w1⟩ := open_int Try.underlying5 (hval 1 5 v1 rfl rfl) h1
  obtain ⟨a2, rfl, _, _, w2⟩ := open_int Try.underlying5 (hval 2 5 v2 rfl rfl) h2
  obtain ⟨a3, rfl, _, _, w3⟩ := open_int Try.underlying5 (hval 3 5 v3 rfl rfl) h3
  obtain ⟨a4, rfl, _, _, w4⟩ := open_int Try.underlying3 (hval 4 3 v4 rfl rfl) h4
  clear hA0 hval0
  refine (walk a0 l0 c0 z0 a1 w1 a2 w2 a3 w3 a4 w4 W w0).mono fun e W' ⟨he, bel⟩ => ?_
  subst he
  exact ⟨_, rfl, _, _, _, [], _, [], hW', trodAll_mk1 (shut_bool Try.underlying4 _), (trodAll_cons_mk (Below.trod laidOut (by kernel_rfl) (of_decide_eq_true (by kernel_rfl)) k0' bel lt0) (trodAll_cons_mk (Below.trod laidOut (by kernel_rfl) (of_decide_eq_true (by kernel_rfl)) k1' bel lt1) (trodAll_cons_mk (Below.trod laidOut (by kernel_rfl) (of_decide_eq_true (by kernel_rfl)) k2' bel lt2) (trodAll_cons_mk (Below.trod laidOut (by kernel_rfl) (of_decide_eq_true (by kernel_rfl)) k3' bel lt3) (trodAll_cons_mk (Below.trod laidOut (by kernel_rfl) (of_decide_eq_true (by kernel_rfl)) k4' bel lt4) trodAll_mk0))))), rfl, bel.frame _, fun h => by cases h⟩

theorem over : Rows.historyOrderRow.holds Try.pinned (OpenSpec.ofChange Rows.historyOrderSpec) :=
  OpenClaim.holds_of_wide 5 Try.f5 rfl rfl rfl rfl rfl rfl rfl ⟨rfl, rfl, rfl, rfl, rfl⟩ rfl rfl rfl rfl rfl (by kernel_rfl) Try.func5 (by kernel_rfl)
    (of_decide_eq_true (by kernel_rfl)) (by unfold Func.isWrapper; first | (rw [if_pos (by decide +kernel)]; kernel_rfl) | (rw [if_neg (by decide +kernel)]; exact ⟨rfl, rfl⟩))
    (fun os started H enc _ => lifted os started H enc)
end Go.Proofs.Ytkamadeekkccgaa.historyOrder

namespace Go.Proofs.Ytkamadeekkccgaa
theorem historyOrder_holds : Rows.HistoryOrderSaid := historyOrder.over
end Go.Proofs.Ytkamadeekkccgaa
