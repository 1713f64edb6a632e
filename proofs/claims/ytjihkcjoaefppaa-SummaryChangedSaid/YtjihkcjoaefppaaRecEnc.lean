/- The walks of the encoder: seal, imageOf, sector, Encode, and the document's own, for any record. -/
import Derived.Test.YtjihkcjoaefppaaRecCheck
import Derived.Test.YtjihkcjoaefppaaCrcSum
import Derived.Test.YtjihkcjoaefppaaBasePlan
namespace Go.Proofs.Ytjihkcjoaefppaa
open Go.RowKit Plan

theorem img_info : (Try.prog.info? 66).map (·.size) = some 9 := by kernel_rfl
/-- the world behind a record's box -/
abbrev boxW (w : World) (k b v m : Int) (p : ByteArray) : World := w.alloc (.cells #[.int .i64 k, .int .i64 b, .int .i64 v, .int .i64 m, .string p] 24)
set_option maxHeartbeats 400000 in
theorem imageOf_ok (k b v m : Int) (p : ByteArray) (w : World) (hp : p.size ≤ 20) :
    Calls Try.prog 40 #[.agg #[.int .i64 k, .int .i64 b, .int .i64 v, .int .i64 m, .string p]] w fun e w' => e = .returned (.agg #[.string ⟨#[90, 65]⟩, .int .i64 p.size, .int .i64 0, .string ⟨(List.replicate (20 - p.size) (0 : UInt8)).toArray⟩, .int .i64 k, .int .i64 b, .int .i64 v, .int .i64 m, .string p]) ∧ Below w.heap.size w w' := by
  have hpad : ∀ w, Calls Try.prog 49 #[.string ⟨#[]⟩, .int .i64 (20 - (p.size : Int))] w fun e w' => e = .returned (.string ⟨(List.replicate (20 - p.size) (0 : UInt8)).toArray⟩) ∧ Below w.heap.size w w' := fun w => by
    have h := pad_any ⟨#[]⟩ (20 - p.size) w (by omega)
    rw [show ((20 - p.size : Nat) : Int) = 20 - (p.size : Int) by omega] at h
    simpa [padL] using h
  generalize (⟨(List.replicate (20 - p.size) (0 : UInt8)).toArray⟩ : ByteArray) = Z at hpad ⊢
  rw [← IntWalk.i64_in (20 - (p.size : Int)) (by omega)] at hpad
  have H := Lib.hid hpad
  clear hpad
  go_enter Try.func40, Try.ntmps40
  go_wp2_with fail
  refine Plan.start (Held (w.heap.size + 1) (boxW w k b v m p)) [(0, true), (1, true), (2, true), (3, true), (4, true), (5, true), (6, true), (8, true), (7, false), (9, true), (10, false)] (by kernel_rfl) (by kernel_rfl) (by kernel_rfl) (by kernel_rfl) (held_new (by simp) _) ?_
  simp only [List.map_cons, List.map_nil, List.getElem?_toArray, List.getElem?_cons_zero, List.getElem?_cons_succ]
  repeat (refine Plan.take ?_ (by rfl) ?_ ?_; rotate_left; (· rintro w1 ⟨hS1, -⟩; go_simp; all_goals (with_reducible rfl)); simp only [Act.put, List.setIfInBounds_toArray, List.set_cons_zero, List.set_cons_succ])
  have hS0 : Held (w.heap.size + 1) (boxW w k b v m p) ((boxW w k b v m p).alloc (.cells #[.string ⟨#[]⟩, .int .i64 0, .int .i64 0, .string ⟨#[]⟩, .int .i64 0, .int .i64 0, .int .i64 0, .int .i64 0, .string ⟨#[]⟩] 66)).drew := held_new (by simp) _
  refine Plan.call (by rfl) 49 _ ?_ (H.out _) ?_
  · go_simp
  rintro e w1 ⟨rfl, hb1⟩
  have hS1 := held_call (by simp) hS0 hb1
  refine ⟨_, rfl, hS1, ?_⟩
  simp only [Act.put, List.setIfInBounds_toArray, List.set_cons_zero, List.set_cons_succ]
  repeat (refine Plan.take ?_ (by rfl) ?_ ?_; rotate_left; (· rintro w2 ⟨hS2, -⟩; go_simp; all_goals (with_reducible rfl)); simp only [Act.put, List.setIfInBounds_toArray, List.set_cons_zero, List.set_cons_succ])
  refine Plan.store (by rfl) 66 _ _ rfl (w.heap.size + 1) _ rfl rfl _ _ (heap_old hb1 (by simp) (heap_new1 _ _ _)) img_info rfl (by simp [Value.oneCell']) (held_row hS1 (by simp) _) ?_
  simp only [Act.put]
  have hg3 := setRow_heap w1 (w.heap.size + 1) _ #[.string ⟨#[90, 65]⟩, .int .i64 p.size, .int .i64 0, .string Z, .int .i64 k, .int .i64 b, .int .i64 v, .int .i64 m, .string p] _ _ (heap_old hb1 (by simp) (heap_new1 _ _ _))
  have hb3 : Below w.heap.size w (w1.setRow (w.heap.size + 1) #[.string ⟨#[90, 65]⟩, .int .i64 p.size, .int .i64 0, .string Z, .int .i64 k, .int .i64 b, .int .i64 v, .int .i64 m, .string p]) := below_setRow (((Below.refl _ _).alloc (Nat.le_refl _) _).trans (hS1.2.mono (Nat.le_succ _))) (by simp) _
  generalize w1.setRow _ _ = w3 at hg3 hb3 ⊢
  refine Plan.ends ?_
  go_wp2_with fail
  exact bodyPost_ret (results_cell_row rfl _ _ _ _ _ _ _ rfl hg3 Try.underlying66 rfl img_info) rfl ⟨rfl, hb3⟩

theorem flat_join (xs : List (List UInt8)) : Lib.join xs [] = xs.flatten := by
  cases xs with
  | nil => rfl
  | cons x r => rw [Lib.join_cons]; simp [Lib.joinTail]
theorem seal_bytes (L : List UInt8) : (⟨L.toArray⟩ : ByteArray) ++ (⟨(CodecMath.bytes (CrcMath.crc 0 L) 4).toArray⟩ : ByteArray) = ⟨(RecMath.sealL L).toArray⟩ := by
  apply ByteArray.ext
  simp [RecMath.sealL]
theorem size_bytes (L : List UInt8) : (⟨L.toArray⟩ : ByteArray).size = L.length := by
  show L.toArray.size = L.length
  simp
theorem put_crc (L : List UInt8) : CodecMath.putL (CrcMath.crc 0 L : Nat) 4 = CodecMath.bytes (CrcMath.crc 0 L) 4 := by
  have h := CrcMath.crc_lt 0 L
  rw [CodecMath.putL_ok]
  · rfl
  · simp [CodecMath.okPut]; omega
theorem seal_any (g n c : Nat) (xs : List ByteArray) (L : List UInt8) (w : World) (hcells : ∀ (j : Nat) x, xs[j]? = some x → w.cell? ⟨g, j, none⟩ = some (.string x)) (hg : g < w.heap.size) (hn : xs.length = n) (hc : n ≤ c)
    (hc2 : c ≤ 1000) (hL : (xs.map (·.data.toList)).flatten = L) (hlen : L.length ≤ 1000000) :
    Calls Try.prog 37 #[.slice (some ⟨g, 0, none⟩) n c] w fun e w' => e = .returned (.string ⟨(RecMath.sealL L).toArray⟩) ∧ Below w.heap.size w w' := by
  subst hn
  have hj := Try.strings_Join g 0 c xs ⟨#[]⟩ w (fun j x h => by rw [Nat.zero_add]; exact hcells j x h) hg (by omega) hc (by
    rw [show (⟨#[]⟩ : ByteArray).data.toList = [] from rfl, flat_join, hL]; omega)
  rw [show (⟨#[]⟩ : ByteArray).data.toList = [] from rfl, flat_join, hL] at hj
  have hs := fun w => sum_any ⟨L.toArray⟩ (by rw [size_bytes]; unfold maxLen; omega) w
  simp only at hs
  have hp := recPut_any (CrcMath.crc 0 L : Nat) 4
  rw [put_crc] at hp
  have hb := seal_bytes L
  have hsz := size_bytes L
  have hsz2 := size_bytes (CodecMath.bytes (CrcMath.crc 0 L) 4)
  rw [CodecMath.bytes_length] at hsz2
  have hcl := CrcMath.crc_lt 0 L
  generalize (⟨(RecMath.sealL L).toArray⟩ : ByteArray) = SS at hb ⊢
  generalize (⟨L.toArray⟩ : ByteArray) = LL at *
  generalize (⟨(CodecMath.bytes (CrcMath.crc 0 L) 4).toArray⟩ : ByteArray) = CC at *
  generalize CrcMath.crc 0 L = C at *
  have hsum : LL.size + CC.size ≤ 9223372036854775807 := by omega
  have HJ := Lib.hid hj
  have HS := Lib.hid hs
  have HP := Lib.hid hp
  have HB := Lib.hid hb
  clear hj hs hp hb hsz hsz2 hcells
  go_enter Try.func37, Try.ntmps37
  go_wp2_with (first
    | (go_at_call 44; ((with_reducible refine HJ.out.mono ?_); rintro e w1 ⟨rfl, hb1⟩))
    | (go_at_call 18; ((with_reducible refine (HS.out _).mono ?_); rintro e w2 ⟨rfl, hb2⟩))
    | (go_at_call 45; ((with_reducible refine (HP.out _).mono ?_); rintro e w3 ⟨rfl, hb3⟩)))
  go_ret
  exact ⟨by rw [HB.out]; rfl, (hb1.trans (hb2.mono hb1.size)).trans (hb3.mono (Nat.le_trans hb1.size hb2.size))⟩

/-- the bytes of a sector ahead of its checksum, in its parts -/
def parts (mk : List UInt8) (len spare : Int) (pad : List UInt8) (k b v m : Int) (p : List UInt8) : List UInt8 :=
  mk ++ (CodecMath.putL k 1 ++ (CodecMath.putL len 1 ++ (CodecMath.putL b 4 ++ (CodecMath.putL v 6 ++ (CodecMath.putL m 1 ++ (CodecMath.putL spare 1 ++ (p ++ pad)))))))
theorem putL_len (n size : Int) (h : size.toNat ≤ 7) : (CodecMath.putL n size).length ≤ 7 := by
  unfold CodecMath.putL
  split
  · rw [CodecMath.bytes_length]; exact h
  · simp
theorem toList_mk (l : List UInt8) : (⟨l.toArray⟩ : ByteArray).data.toList = l := by simp
theorem putL_fit (n : Int) (k : Nat) (h1 : 1 ≤ k) (h7 : k ≤ 7) (h0 : 0 ≤ n) (hn : n < ((256 ^ k : Nat) : Int)) : CodecMath.putL n k = CodecMath.bytes n.toNat k := by
  rw [CodecMath.putL_ok]
  · rfl
  · simp only [CodecMath.okPut, Bool.and_eq_true, decide_eq_true_eq, Int.toNat_natCast]
    omega
theorem body_parts {k b v m : Int} {p : ByteArray} (h : RecMath.checkE (mk k b v m p) = 0) :
    parts [90, 65] p.size 0 (List.replicate (20 - p.size) 0) k b v m p.data.toList = RecMath.body (mk k b v m p) := by
  obtain ⟨h1, h2, h3, h4, h5, h6, h7, h8, h9, -, -⟩ := RecMath.check_ok h
  rw [mk_len] at h9
  simp only [mk] at h1 h2 h3 h4 h5 h6 h7 h8
  have e1 := putL_fit k 1 (by decide) (by decide) (by omega) (by simp; omega)
  have e2 := putL_fit p.size 1 (by decide) (by decide) (by omega) (by simp; omega)
  have e3 := putL_fit b 4 (by decide) (by decide) (by omega) (by simp; omega)
  have e4 := putL_fit v 6 (by decide) (by decide) (by omega) (by simp; omega)
  have e5 := putL_fit m 1 (by decide) (by decide) (by omega) (by simp; omega)
  have e6 : CodecMath.putL 0 1 = [0] := by decide
  simp only [Int.cast_ofNat_Int] at e1 e2 e3 e4 e5
  unfold parts RecMath.body RecMath.pad
  rw [e1, e2, e3, e4, e5, e6, mk_len]
  simp only [mk, List.append_assoc, Int.toNat_natCast]
end Go.Proofs.Ytjihkcjoaefppaa
