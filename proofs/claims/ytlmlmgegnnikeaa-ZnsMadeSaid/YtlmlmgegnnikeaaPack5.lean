/- Texts that belong together, part 5. -/
import Derived.Test.YtlmlmgegnnikeaaPack4

/- The walks of Pad: the program's, by the library's Repeat and Join, and the document's own, for any bytes and a length of at most 2^31 - 1. -/
namespace Go.Proofs.Ytlmlmgegnnikeaa
open Go.RowKit

/-- bytes 0 behind l, n bytes in all -/
def padL (l : List UInt8) (n : Nat) : List UInt8 := l ++ List.replicate (n - l.length) 0
theorem size_list (s : ByteArray) : s.data.toList.length = s.size := by simp
theorem padL_same (s : ByteArray) (n : Nat) (h : n ≤ s.size) : (⟨(padL s.data.toList n).toArray⟩ : ByteArray) = s := by
  rw [padL, size_list, Nat.sub_eq_zero_of_le h]; simp
theorem zeros_size (c : Nat) : (⟨(List.replicate c (0 : UInt8)).toArray⟩ : ByteArray).size = c := by
  show (List.replicate c (0 : UInt8)).toArray.size = c
  simp
theorem refPad_more (s : ByteArray) (n : Nat) (w : World) (hs : s.size < n) (hn : n ≤ 2147483647) :
    Calls Try.prog 64 #[.string s, .int .i64 n] w fun e w' => e = .returned (.string ⟨(padL s.data.toList n).toArray⟩) ∧ Below w.heap.size w w' := by
  have hmk : ∀ w, (Instr.makeSlice 87 (.int .i64 ((n : Int) - s.size)) (.int .i64 ((n : Int) - s.size))).run Try.prog w = .ok (.slice (some ⟨w.heap.size, 0, none⟩) (n - s.size) (n - s.size)) (w.alloc (.cells (madeCells #[.int .u8 0] (n - s.size)) 5)) := fun w => by
    have e : ((n : Int) - s.size) = ((n - s.size : Nat) : Int) := by omega
    rw [e]
    exact run_make_row' (P := Try.prog) 87 5 (.int .u8 0) 1 Try.underlying87 info_byte rfl .i64 .i64 (n - s.size) (by omega) (by omega) w
  have hcv : ∀ w : World, (convert 87 9 (.slice (some ⟨w.heap.size, 0, none⟩) (n - s.size) (n - s.size))).run Try.prog (w.alloc (.cells (madeCells #[.int .u8 0] (n - s.size)) 5)) = .ok (.string ⟨(List.replicate (n - s.size) (0 : UInt8)).toArray⟩) (w.alloc (.cells (madeCells #[.int .u8 0] (n - s.size)) 5)) := fun w => by
    have h1 := run_convert_bytes_back (P := Try.prog) (w.alloc (.cells (madeCells #[.int .u8 0] (n - s.size)) 5)) 87 9 5 ⟨w.heap.size, 0, none⟩ (n - s.size) (List.replicate (n - s.size) 0) Try.underlying87 Try.underlying5 Try.underlying9 (fun j hj => by
      have hj' : j < n - s.size := by simpa using hj
      have e : (⟨w.heap.size, 0, none⟩ : Addr).add j = ⟨w.heap.size, j, none⟩ := by unfold Addr.add; split <;> simp_all
      rw [e, (World.rowIs_made w (.int .u8 0) (n - s.size) 5).cell hj']
      simp)
    rwa [List.length_replicate] at h1
  have he : (⟨(padL s.data.toList n).toArray⟩ : ByteArray) = s ++ (⟨(List.replicate (n - s.size) (0 : UInt8)).toArray⟩ : ByteArray) := by
    rw [padL, size_list]
    apply ByteArray.ext
    simp
  rw [he]
  clear he
  have hz := zeros_size (n - s.size)
  generalize (⟨(List.replicate (n - s.size) (0 : UInt8)).toArray⟩ : ByteArray) = Z at hcv hz ⊢
  have hsum : s.size + Z.size ≤ 9223372036854775807 := by omega
  clear hz
  go_enter Try.func64, Try.ntmps64
  go_wp2
  go_ret
  exact ⟨rfl, (Below.refl _ _).alloc (Nat.le_refl _) _⟩
theorem refPad_same (s : ByteArray) (n : Nat) (w : World) (h : n ≤ s.size) :
    Calls Try.prog 64 #[.string s, .int .i64 n] w fun e w' => e = .returned (.string s) ∧ Below w.heap.size w w' := by
  go_enter Try.func64, Try.ntmps64
  go_wp2
  go_ret
  exact ⟨rfl, Below.refl _ _⟩
theorem refPad_any (s : ByteArray) (n : Nat) (w : World) (hn : n ≤ 2147483647) :
    Calls Try.prog 64 #[.string s, .int .i64 n] w fun e w' => e = .returned (.string ⟨(padL s.data.toList n).toArray⟩) ∧ Below w.heap.size w w' := by
  by_cases h : n ≤ s.size
  · rw [padL_same s n h]; exact refPad_same s n w h
  · exact refPad_more s n w (by omega) hn
end Go.Proofs.Ytlmlmgegnnikeaa

/- The walks of the small functions of the record: within, mayHold, put, get, number, at, and both Checks, for any record. -/
namespace Go.Proofs.Ytlmlmgegnnikeaa
open Go.RowKit

def wit (n g : Int) : Bool := decide (0 ≤ n) && decide (n ≤ g)
def hold (k l : Int) : Bool := if k = 1 then (l == 16) else if k = 2 then (l == 0) else decide (l ≤ 20)

theorem ret_bool {x y : Bool} (h : x = y) : Ending.returned (.bool x) = .returned (.bool y) := by rw [h]
theorem number_any (n size : Int) (w : World) :
    Calls Try.prog 63 #[.int .i64 n, .int .i64 size] w fun e w' => e = .returned (.string ⟨(CodecMath.putL n size).toArray⟩) ∧ Below w.heap.size w w' := by
  have h := refPut_any n size
  generalize (⟨(CodecMath.putL n size).toArray⟩ : ByteArray) = X at h ⊢
  generalize CodecMath.putE n size = E at h
  have H := Lib.hid h
  clear h
  go_enter Try.func63, Try.ntmps63
  go_wp2_with (go_at_call 71; ((with_reducible refine (H.out _).mono ?_); rintro e w1 ⟨rfl, hb1⟩))
  go_ret
  exact ⟨rfl, hb1⟩
/-- a record's fields, as the model has them -/
def mk (k b v m : Int) (p : ByteArray) : RecMath.Rec := ⟨k, b, v, m, p.data.toList⟩
theorem mk_len (k b v m : Int) (p : ByteArray) : (mk k b v m p).payload.length = p.size := size_list p
theorem ret_i {a b : Int} (h : a = b) : Ending.returned (.int .i64 a) = .returned (.int .i64 b) := by rw [h]
theorem check_eq (k b v m : Int) (p : ByteArray) : RecMath.checkE (mk k b v m p) =
    if k < 1 ∨ 6 < k then 3
    else if b < 0 ∨ 4294967295 < b ∨ v < 0 ∨ 1099511627776 < v ∨ m < 0 ∨ 255 < m then 1
    else if 20 < p.size ∨ (k = 1 ∧ p.size ≠ 16) ∨ (k = 2 ∧ p.size ≠ 0) then 2
    else 0 := by
  have h : RecMath.checkE (mk k b v m p) =
    if k < 1 ∨ 6 < k then 3
    else if b < 0 ∨ 4294967295 < b ∨ v < 0 ∨ 1099511627776 < v ∨ m < 0 ∨ 255 < m then 1
    else if 20 < p.data.toList.length ∨ (k = 1 ∧ p.data.toList.length ≠ 16) ∨ (k = 2 ∧ p.data.toList.length ≠ 0) then 2
    else 0 := rfl
  rw [h]
  simp only [size_list]
theorem check_form {k b v m : Int} {p : ByteArray} (h : k < 1 ∨ 6 < k) : RecMath.checkE (mk k b v m p) = 3 := by rw [check_eq, if_pos h]
theorem check_range {k b v m : Int} {p : ByteArray} (h : 1 ≤ k) (h6 : k ≤ 6) (h2 : (wit b 4294967295 && wit v 1099511627776 && wit m 255) = false) : RecMath.checkE (mk k b v m p) = 1 := by
  rw [check_eq, if_neg (by omega), if_pos]
  simp [wit] at h2
  omega
theorem check_size {k b v m : Int} {p : ByteArray} (h : 1 ≤ k) (h6 : k ≤ 6) (hb : wit b 4294967295 = true) (hv : wit v 1099511627776 = true) (hm : wit m 255 = true) :
    RecMath.checkE (mk k b v m p) = if hold k (p.size : Int) = true then 0 else 2 := by
  simp only [wit, Bool.and_eq_true, decide_eq_true_eq] at hb hv hm
  rw [check_eq, if_neg (by omega), if_neg (by omega)]
  unfold hold
  by_cases h1 : k = 1
  · subst h1
    rw [if_pos rfl]
    by_cases hp : p.size = 16
    · rw [if_neg (by omega), if_pos (by simp; omega)]
    · rw [if_pos (by omega), if_neg (by simp; omega)]
  · rw [if_neg h1]
    by_cases h2 : k = 2
    · subst h2
      rw [if_pos rfl]
      by_cases hp : p.size = 0
      · rw [if_neg (by omega), if_pos (by rw [hp]; rfl)]
      · rw [if_pos (by omega), if_neg (by intro hh; have := eq_of_beq hh; omega)]
    · rw [if_neg h2]
      by_cases hp : p.size ≤ 20
      · rw [if_neg (by omega), if_pos (by simp; omega)]
      · rw [if_pos (by omega), if_neg (by simp; omega)]

theorem bnot_false : Value.bool (!false) = .bool true := rfl
set_option maxHeartbeats 400000 in
theorem refCheck_any (k b v m : Int) (p : ByteArray) (w : World) :
    Calls Try.prog 62 #[.agg #[.int .i64 k, .int .i64 b, .int .i64 v, .int .i64 m, .string p]] w fun e w' => e = .returned (.int .i64 (RecMath.checkE (mk k b v m p))) ∧ Below w.heap.size w w' := by
  have E := check_eq k b v m p
  generalize RecMath.checkE (mk k b v m p) = X at E ⊢
  by_cases h1 : k < 1
  · rw [if_pos (by omega)] at E; have HE := Lib.hid E; clear E
    go_enter Try.func62, Try.ntmps62
    go_wp2
    go_ret
    exact ⟨ret_i HE.out.symm, (Below.refl _ _).alloc (Nat.le_refl _) _⟩
  have h1' : 1 ≤ k := by omega
  by_cases h2 : 6 < k
  · rw [if_pos (by omega)] at E; have HE := Lib.hid E; clear E h1
    go_enter Try.func62, Try.ntmps62
    go_wp2
    go_ret
    exact ⟨ret_i HE.out.symm, (Below.refl _ _).alloc (Nat.le_refl _) _⟩
  have d2 : decide (6 < k) = false := by simpa using h2
  rw [if_neg (by omega)] at E
  clear h1 h2
  by_cases h3 : b < 0
  · rw [if_pos (by omega)] at E; have HE := Lib.hid E; clear E
    go_enter Try.func62, Try.ntmps62
    go_wp2
    go_ret
    exact ⟨ret_i HE.out.symm, (Below.refl _ _).alloc (Nat.le_refl _) _⟩
  have d3 : decide (b < 0) = false := by simpa using h3
  have h3' : 0 ≤ b := by omega
  by_cases h4 : 4294967295 < b
  · rw [if_pos (by omega)] at E; have HE := Lib.hid E; clear E h3
    go_enter Try.func62, Try.ntmps62
    go_wp2
    go_ret
    exact ⟨ret_i HE.out.symm, (Below.refl _ _).alloc (Nat.le_refl _) _⟩
  have d4 : decide (4294967295 < b) = false := by simpa using h4
  by_cases h5 : v < 0
  · rw [if_pos (by omega)] at E; have HE := Lib.hid E; clear E h3 h4
    go_enter Try.func62, Try.ntmps62
    go_wp2
    go_ret
    exact ⟨ret_i HE.out.symm, (Below.refl _ _).alloc (Nat.le_refl _) _⟩
  have d5 : decide (v < 0) = false := by simpa using h5
  have h5' : 0 ≤ v := by omega
  by_cases h6 : 1099511627776 < v
  · rw [if_pos (by omega)] at E; have HE := Lib.hid E; clear E h3 h4 h5
    go_enter Try.func62, Try.ntmps62
    go_wp2
    go_ret
    exact ⟨ret_i HE.out.symm, (Below.refl _ _).alloc (Nat.le_refl _) _⟩
  have d6 : decide (1099511627776 < v) = false := by simpa using h6
  by_cases h7 : m < 0
  · rw [if_pos (by omega)] at E; have HE := Lib.hid E; clear E h3 h4 h5 h6
    go_enter Try.func62, Try.ntmps62
    go_wp2
    go_ret
    exact ⟨ret_i HE.out.symm, (Below.refl _ _).alloc (Nat.le_refl _) _⟩
  have d7 : decide (m < 0) = false := by simpa using h7
  have h7' : 0 ≤ m := by omega
  by_cases h8 : 255 < m
  · rw [if_pos (by omega)] at E; have HE := Lib.hid E; clear E h3 h4 h5 h6 h7
    go_enter Try.func62, Try.ntmps62
    go_wp2
    go_ret
    exact ⟨ret_i HE.out.symm, (Below.refl _ _).alloc (Nat.le_refl _) _⟩
  have d8 : decide (255 < m) = false := by simpa using h8
  rw [if_neg (by omega)] at E
  clear h3 h4 h5 h6 h7 h8
  by_cases h9 : 20 < p.size
  · rw [if_pos (by omega)] at E; have HE := Lib.hid E; clear E
    have d9 : (20 : Int) < (p.size : Int) := by omega
    go_enter Try.func62, Try.ntmps62
    go_wp2
    go_ret
    exact ⟨ret_i HE.out.symm, (Below.refl _ _).alloc (Nat.le_refl _) _⟩
  have d9 : decide ((20 : Int) < (p.size : Int)) = false := by simp; omega
  by_cases h10 : k = 1
  · subst h10
    by_cases h11 : p.size = 16
    · rw [if_neg (by omega)] at E; have HE := Lib.hid E; clear E h9
      have d11 : ((p.size : Int) != 16) = false := by rw [h11]; rfl
      clear h11
      go_enter Try.func62, Try.ntmps62
      go_wp2
      go_ret
      exact ⟨ret_i HE.out.symm, (Below.refl _ _).alloc (Nat.le_refl _) _⟩
    · rw [if_pos (by omega)] at E; have HE := Lib.hid E; clear E h9
      have d11 : ((p.size : Int) != 16) = true := by simp; omega
      clear h11
      go_enter Try.func62, Try.ntmps62
      go_wp2
      go_ret
      exact ⟨ret_i HE.out.symm, (Below.refl _ _).alloc (Nat.le_refl _) _⟩
  · have d10 : (k == 1) = false := by simpa using h10
    by_cases h12 : k = 2
    · subst h12
      by_cases h13 : p.size = 0
      · have hpe : p = ⟨#[]⟩ := ByteArray.ext (Array.eq_empty_of_size_eq_zero h13)
        rw [if_neg (by omega)] at E; have HE := Lib.hid E; clear E h9 h10 h13
        subst hpe
        go_enter Try.func62, Try.ntmps62
        go_wp2
        go_ret
        exact ⟨ret_i HE.out.symm, (Below.refl _ _).alloc (Nat.le_refl _) _⟩
      · have hpe : p.toList.isEmpty = false := by
          rw [ByteArray.toList_eq]
          cases hq : p.data.toList with
          | nil => exfalso; apply h13; rw [← size_list, hq]; rfl
          | cons => rfl
        rw [if_pos (by omega)] at E; have HE := Lib.hid E; clear E h9 h10 h13
        go_enter Try.func62, Try.ntmps62
        go_wp2
        go_ret
        exact ⟨ret_i HE.out.symm, (Below.refl _ _).alloc (Nat.le_refl _) _⟩
    · have d12 : (k == 2) = false := by simpa using h12
      rw [if_neg (by omega)] at E; have HE := Lib.hid E; clear E h9 h10 h12
      go_enter Try.func62, Try.ntmps62
      go_wp2
      go_ret
      exact ⟨ret_i HE.out.symm, (Below.refl _ _).alloc (Nat.le_refl _) _⟩

end Go.Proofs.Ytlmlmgegnnikeaa

/- The walks of the encoder: seal, imageOf, sector, Encode, and the document's own, for any record. -/
namespace Go.Proofs.Ytlmlmgegnnikeaa
open Go.RowKit Plan

/-- the world behind a record's box -/
abbrev boxW (w : World) (k b v m : Int) (p : ByteArray) : World := w.alloc (.cells #[.int .i64 k, .int .i64 b, .int .i64 v, .int .i64 m, .string p] 38)
theorem flat_join (xs : List (List UInt8)) : Lib.join xs [] = xs.flatten := by
  cases xs with
  | nil => rfl
  | cons x r => rw [Lib.join_cons]; simp [Lib.joinTail]
theorem seal_bytes (L : List UInt8) : (⟨L.toArray⟩ : ByteArray) ++ (⟨(CodecMath.bytes (CrcMath.crc 0 L) 4).toArray⟩ : ByteArray) = ⟨(RecMath.sealL L).toArray⟩ := by
  apply ByteArray.ext
  simp [RecMath.sealL]
theorem size_bytes (L : List UInt8) : (⟨L.toArray⟩ : ByteArray).size = L.length := by
  show L.toArray.size = L.length
  simp
theorem put_crc (L : List UInt8) : CodecMath.putL (CrcMath.crc 0 L : Nat) 4 = CodecMath.bytes (CrcMath.crc 0 L) 4 := by
  have h := CrcMath.crc_lt 0 L
  rw [CodecMath.putL_ok]
  · rfl
  · simp [CodecMath.okPut]; omega
/-- the bytes of a sector ahead of its checksum, in its parts -/
def parts (mk : List UInt8) (len spare : Int) (pad : List UInt8) (k b v m : Int) (p : List UInt8) : List UInt8 :=
  mk ++ (CodecMath.putL k 1 ++ (CodecMath.putL len 1 ++ (CodecMath.putL b 4 ++ (CodecMath.putL v 6 ++ (CodecMath.putL m 1 ++ (CodecMath.putL spare 1 ++ (p ++ pad)))))))
theorem putL_len (n size : Int) (h : size.toNat ≤ 7) : (CodecMath.putL n size).length ≤ 7 := by
  unfold CodecMath.putL
  split
  · rw [CodecMath.bytes_length]; exact h
  · simp
theorem toList_mk (l : List UInt8) : (⟨l.toArray⟩ : ByteArray).data.toList = l := by simp
theorem putL_fit (n : Int) (k : Nat) (h1 : 1 ≤ k) (h7 : k ≤ 7) (h0 : 0 ≤ n) (hn : n < ((256 ^ k : Nat) : Int)) : CodecMath.putL n k = CodecMath.bytes n.toNat k := by
  rw [CodecMath.putL_ok]
  · rfl
  · simp only [CodecMath.okPut, Bool.and_eq_true, decide_eq_true_eq, Int.toNat_natCast]
    omega
theorem body_parts {k b v m : Int} {p : ByteArray} (h : RecMath.checkE (mk k b v m p) = 0) :
    parts [90, 65] p.size 0 (List.replicate (20 - p.size) 0) k b v m p.data.toList = RecMath.body (mk k b v m p) := by
  obtain ⟨h1, h2, h3, h4, h5, h6, h7, h8, h9, -, -⟩ := RecMath.check_ok h
  rw [mk_len] at h9
  simp only [mk] at h1 h2 h3 h4 h5 h6 h7 h8
  have e1 := putL_fit k 1 (by decide) (by decide) (by omega) (by simp; omega)
  have e2 := putL_fit p.size 1 (by decide) (by decide) (by omega) (by simp; omega)
  have e3 := putL_fit b 4 (by decide) (by decide) (by omega) (by simp; omega)
  have e4 := putL_fit v 6 (by decide) (by decide) (by omega) (by simp; omega)
  have e5 := putL_fit m 1 (by decide) (by decide) (by omega) (by simp; omega)
  have e6 : CodecMath.putL 0 1 = [0] := by decide
  simp only [Int.cast_ofNat_Int] at e1 e2 e3 e4 e5
  unfold parts RecMath.body RecMath.pad
  rw [e1, e2, e3, e4, e5, e6, mk_len]
  simp only [mk, List.append_assoc, Int.toNat_natCast]
end Go.Proofs.Ytlmlmgegnnikeaa

/- The walks of the document's own encoder: Seal, Encode, for any record. -/
namespace Go.Proofs.Ytlmlmgegnnikeaa
open Go.RowKit Plan

theorem refSeal_any (s : ByteArray) (w : World) (h : s.size ≤ 1000000) :
    Calls Try.prog 65 #[.string s] w fun e w' => e = .returned (.string ⟨(RecMath.sealL s.data.toList).toArray⟩) ∧ Below w.heap.size w w' := by
  have hs := fun w => refsum_any s (by unfold maxLen; omega) w
  have hp := number_any (CrcMath.crc 0 s.data.toList : Nat) 4
  rw [put_crc] at hp
  have hb := seal_bytes s.data.toList
  have hsz2 := size_bytes (CodecMath.bytes (CrcMath.crc 0 s.data.toList) 4)
  rw [CodecMath.bytes_length] at hsz2
  have hcl := CrcMath.crc_lt 0 s.data.toList
  rw [show (⟨s.data.toList.toArray⟩ : ByteArray) = s by simp] at hb
  generalize (⟨(RecMath.sealL s.data.toList).toArray⟩ : ByteArray) = SS at hb ⊢
  generalize (⟨(CodecMath.bytes (CrcMath.crc 0 s.data.toList) 4).toArray⟩ : ByteArray) = CC at *
  generalize CrcMath.crc 0 s.data.toList = C at *
  have hsum : s.size + CC.size ≤ 9223372036854775807 := by omega
  have HS := Lib.hid hs
  have HP := Lib.hid hp
  have HB := Lib.hid hb
  clear hs hp hb hsz2
  go_enter Try.func65, Try.ntmps65
  go_wp2_with (first
    | (go_at_call 72; ((with_reducible refine (HS.out _).mono ?_); rintro e w2 ⟨rfl, rfl⟩))
    | (go_at_call 63; ((with_reducible refine (HP.out _).mono ?_); rintro e w3 ⟨rfl, hb3⟩)))
  go_ret
  exact ⟨by rw [HB.out]; rfl, hb3⟩

theorem chain_bytes (l1 l2 l3 l4 l5 l6 : List UInt8) : (⟨#[90, 65]⟩ : ByteArray) ++ ⟨l1.toArray⟩ ++ ⟨l2.toArray⟩ ++ ⟨l3.toArray⟩ ++ ⟨l4.toArray⟩ ++ ⟨l5.toArray⟩ ++ ⟨#[0]⟩ ++ ⟨l6.toArray⟩ = ⟨([90, 65] ++ (l1 ++ (l2 ++ (l3 ++ (l4 ++ (l5 ++ ([0] ++ l6))))))).toArray⟩ := by
  apply ByteArray.ext
  simp
theorem body_chain {k b v m : Int} {p : ByteArray} (h : RecMath.checkE (mk k b v m p) = 0) :
    [90, 65] ++ (CodecMath.putL k 1 ++ (CodecMath.putL p.size 1 ++ (CodecMath.putL b 4 ++ (CodecMath.putL v 6 ++ (CodecMath.putL m 1 ++ ([0] ++ padL p.data.toList 20)))))) = RecMath.body (mk k b v m p) := by
  rw [← body_parts h]
  unfold parts padL
  rw [size_list, show CodecMath.putL 0 1 = [0] by decide]
set_option maxHeartbeats 1000000 in
set_option maxRecDepth 20000 in
theorem refEncode_any (k b v m : Int) (p : ByteArray) (w : World) :
    Calls Try.prog 43 #[.agg #[.int .i64 k, .int .i64 b, .int .i64 v, .int .i64 m, .string p]] w fun e w' => e = .returned (.tuple #[.string ⟨(RecMath.encL (mk k b v m p)).toArray⟩, .int .i64 (RecMath.checkE (mk k b v m p))]) ∧ Below w.heap.size w w' := by
  have hc := refCheck_any k b v m p
  by_cases h : RecMath.checkE (mk k b v m p) = 0
  · have hp := (RecMath.check_ok h).2.2.2.2.2.2.2.2.1
    rw [mk_len] at hp
    have g1 := number_any k 1
    have g2 := number_any p.size 1
    have g3 := number_any b 4
    have g4 := number_any v 6
    have g5 := number_any m 1
    have g6 := fun w => refPad_any p 20 w (by decide)
    have l1 := size_bytes (CodecMath.putL k 1)
    have l2 := size_bytes (CodecMath.putL p.size 1)
    have l3 := size_bytes (CodecMath.putL b 4)
    have l4 := size_bytes (CodecMath.putL v 6)
    have l5 := size_bytes (CodecMath.putL m 1)
    have l6 := size_bytes (padL p.data.toList 20)
    have k1 := putL_len k 1 (by decide)
    have k2 := putL_len p.size 1 (by decide)
    have k3 := putL_len b 4 (by decide)
    have k4 := putL_len v 6 (by decide)
    have k5 := putL_len m 1 (by decide)
    have k6 : (padL p.data.toList 20).length ≤ 20 := by rw [padL, List.length_append, List.length_replicate, size_list]; omega
    have hch := chain_bytes (CodecMath.putL k 1) (CodecMath.putL p.size 1) (CodecMath.putL b 4) (CodecMath.putL v 6) (CodecMath.putL m 1) (padL p.data.toList 20)
    rw [body_chain h] at hch
    have hs := fun w => refSeal_any ⟨(RecMath.body (mk k b v m p)).toArray⟩ w (by rw [size_bytes, RecMath.body_length (by rw [mk_len]; exact hp)]; decide)
    rw [toList_mk] at hs
    rw [show RecMath.encL (mk k b v m p) = RecMath.sealL (RecMath.body (mk k b v m p)) from if_pos h]
    rw [h] at hc ⊢
    generalize (⟨(RecMath.sealL (RecMath.body (mk k b v m p))).toArray⟩ : ByteArray) = SS at hs ⊢
    generalize (⟨(RecMath.body (mk k b v m p)).toArray⟩ : ByteArray) = BB at hs hch
    generalize (⟨(CodecMath.putL k 1).toArray⟩ : ByteArray) = X1 at *
    generalize (⟨(CodecMath.putL p.size 1).toArray⟩ : ByteArray) = X2 at *
    generalize (⟨(CodecMath.putL b 4).toArray⟩ : ByteArray) = X3 at *
    generalize (⟨(CodecMath.putL v 6).toArray⟩ : ByteArray) = X4 at *
    generalize (⟨(CodecMath.putL m 1).toArray⟩ : ByteArray) = X5 at *
    generalize (⟨(padL p.data.toList 20).toArray⟩ : ByteArray) = X6 at *
    have z1 : X1.size ≤ 7 := by omega
    have z2 : X2.size ≤ 7 := by omega
    have z3 : X3.size ≤ 7 := by omega
    have z4 : X4.size ≤ 7 := by omega
    have z5 : X5.size ≤ 7 := by omega
    have z6 : X6.size ≤ 20 := by omega
    have y0 : (⟨#[90, 65]⟩ : ByteArray).size = 2 := rfl
    have y7 : (⟨#[0]⟩ : ByteArray).size = 1 := rfl
    have s1 : 2 + X1.size ≤ 9223372036854775807 := by omega
    have s2 : 2 + X1.size + X2.size ≤ 9223372036854775807 := by omega
    have s3 : 2 + X1.size + X2.size + X3.size ≤ 9223372036854775807 := by omega
    have s4 : 2 + X1.size + X2.size + X3.size + X4.size ≤ 9223372036854775807 := by omega
    have s5 : 2 + X1.size + X2.size + X3.size + X4.size + X5.size ≤ 9223372036854775807 := by omega
    have s6 : 2 + X1.size + X2.size + X3.size + X4.size + X5.size + 1 ≤ 9223372036854775807 := by omega
    have s7 : 2 + X1.size + X2.size + X3.size + X4.size + X5.size + 1 + X6.size ≤ 9223372036854775807 := by omega
    clear y0 y7 z1 z2 z3 z4 z5 z6 l1 l2 l3 l4 l5 l6 k1 k2 k3 k4 k5 k6
    have HC := Lib.hid hc
    have H1 := Lib.hid g1
    have H2 := Lib.hid g2
    have H3 := Lib.hid g3
    have H4 := Lib.hid g4
    have H5 := Lib.hid g5
    have H6 := Lib.hid g6
    have HS := Lib.hid hs
    have HB := Lib.hid hch
    clear hc g1 g2 g3 g4 g5 g6 hs hch h
    go_enter Try.func43, Try.ntmps43
    go_wp2_with (first
      | (go_at_call 62; ((with_reducible refine (HC.out _).mono ?_); rintro e w1 ⟨rfl, hb1⟩; obtain ⟨hc1, hf1⟩ := bcell hb1)))
    have hz : w.heap.size + 1 ≤ w1.heap.size := by have := hb1.size; simpa using this
    refine Plan.start (Held (w.heap.size + 1) w1) [(0, true), (1, true), (4, true), (5, true), (6, true), (9, true), (10, true), (13, true), (14, true), (17, true), (18, true), (22, true), (23, true), (2, false), (3, true), (7, false), (8, true), (11, false), (12, true), (15, false), (16, true), (19, false), (20, true), (21, true), (24, false), (25, true), (26, true)] (by kernel_rfl) (by kernel_rfl) (by kernel_rfl) (by kernel_rfl) held_same ?_
    simp only [List.map_cons, List.map_nil, List.getElem?_toArray, List.getElem?_cons_zero, List.getElem?_cons_succ]
    repeat (refine Plan.take ?_ (by rfl) ?_ ?_; rotate_left; (· rintro w9 ⟨hS9, -⟩; go_simp; (try rw [if_neg (by omega)]); all_goals (with_reducible rfl)); simp only [Act.put, List.setIfInBounds_toArray, List.set_cons_zero, List.set_cons_succ])
    have hS1 : Held (w.heap.size + 1) w1 w1.drew := held_same
    refine Plan.call (by rfl) 63 _ ?_ (H1.out _) ?_
    · go_simp
    rintro e w2 ⟨rfl, hb2⟩
    have hS2 := held_call hz hS1 hb2
    refine ⟨_, rfl, hS2, ?_⟩
    simp only [Act.put, List.setIfInBounds_toArray, List.set_cons_zero, List.set_cons_succ]
    repeat (refine Plan.take ?_ (by rfl) ?_ ?_; rotate_left; (· rintro w9 ⟨hS9, -⟩; go_simp; (try rw [if_neg (by omega)]); all_goals (with_reducible rfl)); simp only [Act.put, List.setIfInBounds_toArray, List.set_cons_zero, List.set_cons_succ])
    refine Plan.call (by rfl) 63 _ ?_ (H2.out _) ?_
    · go_simp
    rintro e w3 ⟨rfl, hb3⟩
    have hS3 := held_call hz hS2 hb3
    refine ⟨_, rfl, hS3, ?_⟩
    simp only [Act.put, List.setIfInBounds_toArray, List.set_cons_zero, List.set_cons_succ]
    repeat (refine Plan.take ?_ (by rfl) ?_ ?_; rotate_left; (· rintro w9 ⟨hS9, -⟩; go_simp; (try rw [if_neg (by omega)]); all_goals (with_reducible rfl)); simp only [Act.put, List.setIfInBounds_toArray, List.set_cons_zero, List.set_cons_succ])
    refine Plan.call (by rfl) 63 _ ?_ (H3.out _) ?_
    · go_simp
    rintro e w4 ⟨rfl, hb4⟩
    have hS4 := held_call hz hS3 hb4
    refine ⟨_, rfl, hS4, ?_⟩
    simp only [Act.put, List.setIfInBounds_toArray, List.set_cons_zero, List.set_cons_succ]
    repeat (refine Plan.take ?_ (by rfl) ?_ ?_; rotate_left; (· rintro w9 ⟨hS9, -⟩; go_simp; (try rw [if_neg (by omega)]); all_goals (with_reducible rfl)); simp only [Act.put, List.setIfInBounds_toArray, List.set_cons_zero, List.set_cons_succ])
    refine Plan.call (by rfl) 63 _ ?_ (H4.out _) ?_
    · go_simp
    rintro e w5 ⟨rfl, hb5⟩
    have hS5 := held_call hz hS4 hb5
    refine ⟨_, rfl, hS5, ?_⟩
    simp only [Act.put, List.setIfInBounds_toArray, List.set_cons_zero, List.set_cons_succ]
    repeat (refine Plan.take ?_ (by rfl) ?_ ?_; rotate_left; (· rintro w9 ⟨hS9, -⟩; go_simp; (try rw [if_neg (by omega)]); all_goals (with_reducible rfl)); simp only [Act.put, List.setIfInBounds_toArray, List.set_cons_zero, List.set_cons_succ])
    refine Plan.call (by rfl) 63 _ ?_ (H5.out _) ?_
    · go_simp
    rintro e w6 ⟨rfl, hb6⟩
    have hS6 := held_call hz hS5 hb6
    refine ⟨_, rfl, hS6, ?_⟩
    simp only [Act.put, List.setIfInBounds_toArray, List.set_cons_zero, List.set_cons_succ]
    repeat (refine Plan.take ?_ (by rfl) ?_ ?_; rotate_left; (· rintro w9 ⟨hS9, -⟩; go_simp; (try rw [if_neg (by omega)]); all_goals (with_reducible rfl)); simp only [Act.put, List.setIfInBounds_toArray, List.set_cons_zero, List.set_cons_succ])
    refine Plan.call (by rfl) 64 _ ?_ (H6.out _) ?_
    · go_simp
    rintro e w7 ⟨rfl, hb7⟩
    have hS7 := held_call hz hS6 hb7
    refine ⟨_, rfl, hS7, ?_⟩
    simp only [Act.put, List.setIfInBounds_toArray, List.set_cons_zero, List.set_cons_succ]
    repeat (refine Plan.take ?_ (by rfl) ?_ ?_; rotate_left; (· rintro w9 ⟨hS9, -⟩; go_simp; (try rw [if_neg (by omega)]); all_goals (with_reducible rfl)); simp only [Act.put, List.setIfInBounds_toArray, List.set_cons_zero, List.set_cons_succ])
    refine Plan.ends ?_
    go_wp2_with (go_at_call 65; rw [HB.out]; ((with_reducible refine (HS.out _).mono ?_); rintro e w8 ⟨rfl, hb8⟩))
    go_ret2
    exact ⟨rfl, ((((Below.refl _ _).alloc (Nat.le_refl _) _).trans (hb1.mono (by simp))).trans ((hS7.2.mono (Nat.le_succ _)))).trans (hb8.mono (by have := hS7.2.size; omega))⟩
  · rw [show RecMath.encL (mk k b v m p) = [] from if_neg h]
    generalize RecMath.checkE (mk k b v m p) = E at *
    have hE : (E != 0) = true := by simpa using h
    have HC := Lib.hid hc
    clear hc h
    go_enter Try.func43, Try.ntmps43
    go_wp2_with (first
      | (go_at_call 62; ((with_reducible refine (HC.out _).mono ?_); rintro e w1 ⟨rfl, hb1⟩; obtain ⟨hc1, hf1⟩ := bcell hb1)))
    go_ret2
    exact ⟨rfl, ((Below.refl _ _).alloc (Nat.le_refl _) _).trans (hb1.mono (by simp))⟩

end Go.Proofs.Ytlmlmgegnnikeaa

/- The walk of what the decoder reads in a sector. -/
namespace Go.Proofs.Ytlmlmgegnnikeaa
open Go.RowKit Plan

/-- a record's cells -/
def recV (r : RecMath.Rec) : Array Value := #[.int .i64 r.kind, .int .i64 r.block, .int .i64 r.version, .int .i64 r.move, .string ⟨r.payload.toArray⟩]
theorem list40 {s : ByteArray} (h : s.size = 40) : s.data.toList.length = 40 := by rw [size_list]; exact h
theorem getN_field {l : List UInt8} (hl : l.length = 40) (a k : Nat) (h1 : 1 ≤ k) (h7 : k ≤ 7) (h : a + k ≤ 40) : CodecMath.getN l a k = (RecMath.field l a k : Nat) := by
  unfold CodecMath.getN
  rw [if_pos]
  · rfl
  · simp only [CodecMath.okArg, CodecMath.okAt, Bool.and_eq_true, decide_eq_true_eq, hl]
    omega
end Go.Proofs.Ytlmlmgegnnikeaa

/- The walks of the decoder: Decode, and the document's own, for any bytes. -/
namespace Go.Proofs.Ytlmlmgegnnikeaa
open Go.RowKit Plan

theorem rec_info : (Try.prog.info? 38).map (·.size) = some 5 := by kernel_rfl
theorem ext_list (s : ByteArray) (a b : Nat) : (s.extract a b).data.toList = (s.data.toList.drop a).take (b - a) := by
  simp [List.extract]
theorem ext_seg (s : ByteArray) (a b k : Nat) (h : b = a + k) : (s.extract a b).data.toList = RecMath.seg s.data.toList a k := by
  rw [ext_list, h, Nat.add_sub_cancel_left]
  rfl
theorem ext_36 (s : ByteArray) : (s.extract 0 36).data.toList = s.data.toList.take 36 := by
  rw [ext_list]; rfl
theorem zero_rec : recV RecMath.Rec.zero = #[.int .i64 0, .int .i64 0, .int .i64 0, .int .i64 0, .string ⟨#[]⟩] := rfl
theorem seal_same (s : ByteArray) (hs : s.size = 40) (h : RecMath.field s.data.toList 36 4 = CrcMath.crc 0 (s.data.toList.take 36)) : (⟨(RecMath.sealL (s.data.toList.take 36)).toArray⟩ : ByteArray) = s := by
  rw [(RecMath.seal_iff (list40 hs)).2 h]
theorem seal_other (s : ByteArray) (hs : s.size = 40) (h : RecMath.field s.data.toList 36 4 ≠ CrcMath.crc 0 (s.data.toList.take 36)) : (s.toList == (⟨(RecMath.sealL (s.data.toList.take 36)).toArray⟩ : ByteArray).toList) = false := by
  rw [ByteArray.toList_eq, ByteArray.toList_eq, toList_mk, beq_eq_false_iff_ne]
  intro e
  exact h ((RecMath.seal_iff (list40 hs)).1 e.symm)
/-- what the decoder reads, as the model has it -/
theorem read_mk (s : ByteArray) (n : Nat) (hn : n = min (RecMath.field s.data.toList 3 1) 20) :
    RecMath.read s.data.toList = mk (RecMath.field s.data.toList 2 1 : Nat) (RecMath.field s.data.toList 4 4 : Nat) (RecMath.field s.data.toList 8 6 : Nat) (RecMath.field s.data.toList 14 1 : Nat) (s.extract 16 (16 + n)) := by
  subst hn
  unfold RecMath.read mk
  rw [ext_seg s 16 _ (min (RecMath.field s.data.toList 3 1) 20) rfl]
  rfl
theorem pl_size (s : ByteArray) (hs : s.size = 40) (n : Nat) (hn : n ≤ 20) : (s.extract 16 (16 + n)).size = n := by
  rw [← size_list, ext_seg s 16 _ n rfl, RecMath.seg_len (list40 hs) _ _ (by omega)]
theorem eq_bytes (a b : ByteArray) (l m : List UInt8) (ha : a.data.toList = l) (hb : b.data.toList = m) : (a.toList == b.toList) = (l == m) := by
  rw [ByteArray.toList_eq, ByteArray.toList_eq, ha, hb]
theorem form_bits (s : ByteArray) (n : Nat) (hn : n = min (RecMath.field s.data.toList 3 1) 20) : RecMath.formB s.data.toList =
    (((s.extract 0 2).toList == (⟨#[90, 65]⟩ : ByteArray).toList) && (RecMath.field s.data.toList 3 1 == n) && (RecMath.field s.data.toList 15 1 == 0) && ((s.extract (16 + n) 36).toList == (⟨(List.replicate (20 - n) (0 : UInt8)).toArray⟩ : ByteArray).toList)) := by
  rw [eq_bytes _ _ (s.data.toList.take 2) [90, 65] (by rw [ext_list]; rfl) rfl, eq_bytes _ _ (RecMath.seg s.data.toList (16 + n) (20 - n)) (List.replicate (20 - n) 0) (ext_seg s _ _ _ (by omega)) (toList_mk _)]
  subst hn
  rfl
theorem back_bytes (s : ByteArray) : (⟨s.data.toList.toArray⟩ : ByteArray) = s := by simp
theorem bits_if (w : World) (M PD Z : ByteArray) (F3 n F15 : Nat) (B : Bool) (h : B = ((M.toList == (⟨#[90, 65]⟩ : ByteArray).toList) && (F3 == n) && (F15 == 0) && (PD.toList == Z.toList))) :
    (if M.toList = [90, 65] then
      if (F3 : Int) = (n : Int) then
        if F15 = 0 then
          if PD.toList = Z.toList then Result.ok (Next.value (Value.bool false)) w
          else Result.ok (Next.value (Value.bool true)) w
        else Result.ok (Next.value (Value.bool true)) w
      else Result.ok (Next.value (Value.bool true)) w
    else Result.ok (Next.value (Value.bool true)) w) =
    Result.ok (Next.value (Value.bool (!B))) w := by
  have e : (⟨#[90, 65]⟩ : ByteArray).toList = [90, 65] := by rw [ByteArray.toList_eq]
  rw [h, e]
  by_cases h1 : M.toList = [90, 65]
  · by_cases h2 : F3 = n
    · by_cases h3 : F15 = 0
      · by_cases h4 : PD.toList = Z.toList
        · simp [h1, h2, h3, h4]
        · simp [h1, h2, h3, h4]
      · simp [h1, h2, h3]
    · have h2' : ¬ (F3 : Int) = (n : Int) := by omega
      simp [h1, h2, h2']
  · simp [h1]
end Go.Proofs.Ytlmlmgegnnikeaa

/- The walk of the document's own decoder, for any bytes. -/
namespace Go.Proofs.Ytlmlmgegnnikeaa
open Go.RowKit Plan

theorem sum36 (s : ByteArray) (hs : s.size = 40) (w : World) :
    Calls Try.prog 72 #[.string (s.extract 0 36)] w fun e w' => e = .returned (.int .u32 (CrcMath.crc 0 (s.data.toList.take 36) : Nat)) ∧ w = w' := by
  have := refsum_any (s.extract 0 36) (by rw [← size_list, ext_36, List.length_take, size_list]; unfold maxLen; omega) w
  rwa [ext_36] at this
end Go.Proofs.Ytlmlmgegnnikeaa
