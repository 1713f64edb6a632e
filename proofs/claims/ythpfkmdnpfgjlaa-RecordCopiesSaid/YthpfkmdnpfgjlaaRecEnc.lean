/- The walks of the encoder: seal, imageOf, sector, Encode, and the document's own, for any record. -/
import Derived.Test.YthpfkmdnpfgjlaaRecCheck
import Derived.Test.YthpfkmdnpfgjlaaCrcSum
import Derived.Test.YthpfkmdnpfgjlaaBasePlan
namespace Go.Proofs.Ythpfkmdnpfgjlaa
open Go.RowKit Plan

theorem img_info : (Try.prog.info? 51).map (·.size) = some 9 := by kernel_rfl
/-- the world behind a record's box -/
abbrev boxW (w : World) (k b v m : Int) (p : ByteArray) : World := w.alloc (.cells #[.int .i64 k, .int .i64 b, .int .i64 v, .int .i64 m, .string p] 23)
set_option maxHeartbeats 400000 in
theorem imageOf_ok (k b v m : Int) (p : ByteArray) (w : World) (hp : p.size ≤ 20) :
    Calls Try.prog 25 #[.agg #[.int .i64 k, .int .i64 b, .int .i64 v, .int .i64 m, .string p]] w fun e w' => e = .returned (.agg #[.string ⟨#[90, 65]⟩, .int .i64 p.size, .int .i64 0, .string ⟨(List.replicate (20 - p.size) (0 : UInt8)).toArray⟩, .int .i64 k, .int .i64 b, .int .i64 v, .int .i64 m, .string p]) ∧ Below w.heap.size w w' := by
  have hpad : ∀ w, Calls Try.prog 37 #[.string ⟨#[]⟩, .int .i64 (20 - (p.size : Int))] w fun e w' => e = .returned (.string ⟨(List.replicate (20 - p.size) (0 : UInt8)).toArray⟩) ∧ Below w.heap.size w w' := fun w => by
    have h := pad_any ⟨#[]⟩ (20 - p.size) w (by omega)
    rw [show ((20 - p.size : Nat) : Int) = 20 - (p.size : Int) by omega] at h
    simpa [padL] using h
  generalize (⟨(List.replicate (20 - p.size) (0 : UInt8)).toArray⟩ : ByteArray) = Z at hpad ⊢
  rw [← IntWalk.i64_in (20 - (p.size : Int)) (by omega)] at hpad
  have H := Lib.hid hpad
  clear hpad
  go_enter Try.func25, Try.ntmps25
  go_wp2_with fail
  refine Plan.start (Held (w.heap.size + 1) (boxW w k b v m p)) [(0, true), (1, true), (2, true), (3, true), (4, true), (5, true), (6, true), (8, true), (7, false), (9, true), (10, false)] (by kernel_rfl) (by kernel_rfl) (by kernel_rfl) (by kernel_rfl) (held_new (by simp) _) ?_
  simp only [List.map_cons, List.map_nil, List.getElem?_toArray, List.getElem?_cons_zero, List.getElem?_cons_succ]
  repeat (refine Plan.take ?_ (by rfl) ?_ ?_; rotate_left; (· rintro w1 ⟨hS1, -⟩; go_simp; all_goals (with_reducible rfl)); simp only [Act.put, List.setIfInBounds_toArray, List.set_cons_zero, List.set_cons_succ])
  have hS0 : Held (w.heap.size + 1) (boxW w k b v m p) ((boxW w k b v m p).alloc (.cells #[.string ⟨#[]⟩, .int .i64 0, .int .i64 0, .string ⟨#[]⟩, .int .i64 0, .int .i64 0, .int .i64 0, .int .i64 0, .string ⟨#[]⟩] 51)).drew := held_new (by simp) _
  refine Plan.call (by rfl) 37 _ ?_ (H.out _) ?_
  · go_simp
  rintro e w1 ⟨rfl, hb1⟩
  have hS1 := held_call (by simp) hS0 hb1
  refine ⟨_, rfl, hS1, ?_⟩
  simp only [Act.put, List.setIfInBounds_toArray, List.set_cons_zero, List.set_cons_succ]
  repeat (refine Plan.take ?_ (by rfl) ?_ ?_; rotate_left; (· rintro w2 ⟨hS2, -⟩; go_simp; all_goals (with_reducible rfl)); simp only [Act.put, List.setIfInBounds_toArray, List.set_cons_zero, List.set_cons_succ])
  refine Plan.store (by rfl) 51 _ _ rfl (w.heap.size + 1) _ rfl rfl _ _ (heap_old hb1 (by simp) (heap_new1 _ _ _)) img_info rfl (by simp [Value.oneCell']) (held_row hS1 (by simp) _) ?_
  simp only [Act.put]
  have hg3 := setRow_heap w1 (w.heap.size + 1) _ #[.string ⟨#[90, 65]⟩, .int .i64 p.size, .int .i64 0, .string Z, .int .i64 k, .int .i64 b, .int .i64 v, .int .i64 m, .string p] _ _ (heap_old hb1 (by simp) (heap_new1 _ _ _))
  have hb3 : Below w.heap.size w (w1.setRow (w.heap.size + 1) #[.string ⟨#[90, 65]⟩, .int .i64 p.size, .int .i64 0, .string Z, .int .i64 k, .int .i64 b, .int .i64 v, .int .i64 m, .string p]) := below_setRow (((Below.refl _ _).alloc (Nat.le_refl _) _).trans (hS1.2.mono (Nat.le_succ _))) (by simp) _
  generalize w1.setRow _ _ = w3 at hg3 hb3 ⊢
  refine Plan.ends ?_
  go_wp2_with fail
  exact bodyPost_ret (results_cell_row rfl _ _ _ _ _ _ _ rfl hg3 Try.underlying51 rfl img_info) rfl ⟨rfl, hb3⟩

theorem flat_join (xs : List (List UInt8)) : Lib.join xs [] = xs.flatten := by
  cases xs with
  | nil => rfl
  | cons x r => rw [Lib.join_cons]; simp [Lib.joinTail]
theorem seal_bytes (L : List UInt8) : (⟨L.toArray⟩ : ByteArray) ++ (⟨(CodecMath.bytes (CrcMath.crc 0 L) 4).toArray⟩ : ByteArray) = ⟨(RecMath.sealL L).toArray⟩ := by
  apply ByteArray.ext
  simp [RecMath.sealL]
theorem size_bytes (L : List UInt8) : (⟨L.toArray⟩ : ByteArray).size = L.length := by
  show L.toArray.size = L.length
  simp
theorem put_crc (L : List UInt8) : CodecMath.putL (CrcMath.crc 0 L : Nat) 4 = CodecMath.bytes (CrcMath.crc 0 L) 4 := by
  have h := CrcMath.crc_lt 0 L
  rw [CodecMath.putL_ok]
  · rfl
  · simp [CodecMath.okPut]; omega
theorem seal_any (g n c : Nat) (xs : List ByteArray) (L : List UInt8) (w : World) (hcells : ∀ (j : Nat) x, xs[j]? = some x → w.cell? ⟨g, j, none⟩ = some (.string x)) (hg : g < w.heap.size) (hn : xs.length = n) (hc : n ≤ c)
    (hc2 : c ≤ 1000) (hL : (xs.map (·.data.toList)).flatten = L) (hlen : L.length ≤ 1000000) :
    Calls Try.prog 32 #[.slice (some ⟨g, 0, none⟩) n c] w fun e w' => e = .returned (.string ⟨(RecMath.sealL L).toArray⟩) ∧ Below w.heap.size w w' := by
  subst hn
  have hj := Try.strings_Join g 0 c xs ⟨#[]⟩ w (fun j x h => by rw [Nat.zero_add]; exact hcells j x h) hg (by omega) hc (by
    rw [show (⟨#[]⟩ : ByteArray).data.toList = [] from rfl, flat_join, hL]; omega)
  rw [show (⟨#[]⟩ : ByteArray).data.toList = [] from rfl, flat_join, hL] at hj
  have hs := fun w => sum_any ⟨L.toArray⟩ (by rw [size_bytes]; unfold maxLen; omega) w
  simp only at hs
  have hp := recPut_any (CrcMath.crc 0 L : Nat) 4
  rw [put_crc] at hp
  have hb := seal_bytes L
  have hsz := size_bytes L
  have hsz2 := size_bytes (CodecMath.bytes (CrcMath.crc 0 L) 4)
  rw [CodecMath.bytes_length] at hsz2
  have hcl := CrcMath.crc_lt 0 L
  generalize (⟨(RecMath.sealL L).toArray⟩ : ByteArray) = SS at hb ⊢
  generalize (⟨L.toArray⟩ : ByteArray) = LL at *
  generalize (⟨(CodecMath.bytes (CrcMath.crc 0 L) 4).toArray⟩ : ByteArray) = CC at *
  generalize CrcMath.crc 0 L = C at *
  have hsum : LL.size + CC.size ≤ 9223372036854775807 := by omega
  have HJ := Lib.hid hj
  have HS := Lib.hid hs
  have HP := Lib.hid hp
  have HB := Lib.hid hb
  clear hj hs hp hb hsz hsz2 hcells
  go_enter Try.func32, Try.ntmps32
  go_wp2_with (first
    | (go_at_call 40; ((with_reducible refine HJ.out.mono ?_); rintro e w1 ⟨rfl, hb1⟩))
    | (go_at_call 41; ((with_reducible refine (HS.out _).mono ?_); rintro e w2 ⟨rfl, hb2⟩))
    | (go_at_call 38; ((with_reducible refine (HP.out _).mono ?_); rintro e w3 ⟨rfl, hb3⟩)))
  go_ret
  exact ⟨by rw [HB.out]; rfl, (hb1.trans (hb2.mono hb1.size)).trans (hb3.mono (Nat.le_trans hb1.size hb2.size))⟩

/-- the bytes of a sector ahead of its checksum, in its parts -/
def parts (mk : List UInt8) (len spare : Int) (pad : List UInt8) (k b v m : Int) (p : List UInt8) : List UInt8 :=
  mk ++ (CodecMath.putL k 1 ++ (CodecMath.putL len 1 ++ (CodecMath.putL b 4 ++ (CodecMath.putL v 6 ++ (CodecMath.putL m 1 ++ (CodecMath.putL spare 1 ++ (p ++ pad)))))))
theorem putL_len (n size : Int) (h : size.toNat ≤ 7) : (CodecMath.putL n size).length ≤ 7 := by
  unfold CodecMath.putL
  split
  · rw [CodecMath.bytes_length]; exact h
  · simp
theorem toList_mk (l : List UInt8) : (⟨l.toArray⟩ : ByteArray).data.toList = l := by simp
set_option maxHeartbeats 1000000 in
set_option maxRecDepth 20000 in
theorem sector_any (mk pad p : ByteArray) (len spare k b v m : Int) (w : World) (h1 : mk.size ≤ 1000) (h2 : pad.size ≤ 1000) (h3 : p.size ≤ 1000) :
    Calls Try.prog 26 #[.agg #[.string mk, .int .i64 len, .int .i64 spare, .string pad, .int .i64 k, .int .i64 b, .int .i64 v, .int .i64 m, .string p]] w fun e w' =>
      e = .returned (.string ⟨(RecMath.sealL (parts mk.data.toList len spare pad.data.toList k b v m p.data.toList)).toArray⟩) ∧ Below w.heap.size w w' := by
  have g1 := recPut_any k 1
  have g2 := recPut_any len 1
  have g3 := recPut_any b 4
  have g4 := recPut_any v 6
  have g5 := recPut_any m 1
  have g6 := recPut_any spare 1
  have l1 := size_bytes (CodecMath.putL k 1)
  have l2 := size_bytes (CodecMath.putL len 1)
  have l3 := size_bytes (CodecMath.putL b 4)
  have l4 := size_bytes (CodecMath.putL v 6)
  have l5 := size_bytes (CodecMath.putL m 1)
  have l6 := size_bytes (CodecMath.putL spare 1)
  have k1 := putL_len k 1 (by decide)
  have k2 := putL_len len 1 (by decide)
  have k3 := putL_len b 4 (by decide)
  have k4 := putL_len v 6 (by decide)
  have k5 := putL_len m 1 (by decide)
  have k6 := putL_len spare 1 (by decide)
  have t1 := toList_mk (CodecMath.putL k 1)
  have t2 := toList_mk (CodecMath.putL len 1)
  have t3 := toList_mk (CodecMath.putL b 4)
  have t4 := toList_mk (CodecMath.putL v 6)
  have t5 := toList_mk (CodecMath.putL m 1)
  have t6 := toList_mk (CodecMath.putL spare 1)
  have hseal : ∀ (w : World) (g : Nat) (W : World), W = w.alloc (.cells #[.string mk, .string ⟨(CodecMath.putL k 1).toArray⟩, .string ⟨(CodecMath.putL len 1).toArray⟩, .string ⟨(CodecMath.putL b 4).toArray⟩, .string ⟨(CodecMath.putL v 6).toArray⟩, .string ⟨(CodecMath.putL m 1).toArray⟩, .string ⟨(CodecMath.putL spare 1).toArray⟩, .string p, .string pad] 9) → g = w.heap.size →
      Calls Try.prog 32 #[.slice (some ⟨g, 0, none⟩) 9 9] W fun e w' => e = .returned (.string ⟨(RecMath.sealL (parts mk.data.toList len spare pad.data.toList k b v m p.data.toList)).toArray⟩) ∧ Below W.heap.size W w' := by
    intro w g W hW hg
    subst hW hg
    refine seal_any _ _ _ [mk, ⟨(CodecMath.putL k 1).toArray⟩, ⟨(CodecMath.putL len 1).toArray⟩, ⟨(CodecMath.putL b 4).toArray⟩, ⟨(CodecMath.putL v 6).toArray⟩, ⟨(CodecMath.putL m 1).toArray⟩, ⟨(CodecMath.putL spare 1).toArray⟩, p, pad] _ _ ?_ (by simp) rfl (by omega) (by omega) ?_ ?_
    · intro j x hx
      rw [cell_of_row _ _ j _ _ _ (heap_alloc_new w _)]
      match j, hx with
      | 0, h | 1, h | 2, h | 3, h | 4, h | 5, h | 6, h | 7, h | 8, h => simpa using h
      | j + 9, h => simp at h
    · simp only [List.map_cons, List.map_nil, List.flatten_cons, List.flatten_nil, List.append_nil, parts]
    · simp only [parts, List.length_append, size_list]; omega
  generalize RecMath.sealL (parts mk.data.toList len spare pad.data.toList k b v m p.data.toList) = SS at hseal ⊢
  generalize (⟨(CodecMath.putL k 1).toArray⟩ : ByteArray) = X1 at *
  generalize (⟨(CodecMath.putL len 1).toArray⟩ : ByteArray) = X2 at *
  generalize (⟨(CodecMath.putL b 4).toArray⟩ : ByteArray) = X3 at *
  generalize (⟨(CodecMath.putL v 6).toArray⟩ : ByteArray) = X4 at *
  generalize (⟨(CodecMath.putL m 1).toArray⟩ : ByteArray) = X5 at *
  generalize (⟨(CodecMath.putL spare 1).toArray⟩ : ByteArray) = X6 at *
  clear l1 l2 l3 l4 l5 l6 k1 k2 k3 k4 k5 k6 t1 t2 t3 t4 t5 t6
  have H1 := Lib.hid g1
  have H2 := Lib.hid g2
  have H3 := Lib.hid g3
  have H4 := Lib.hid g4
  have H5 := Lib.hid g5
  have H6 := Lib.hid g6
  have H7 := Lib.hid hseal
  clear g1 g2 g3 g4 g5 g6 hseal
  go_enter Try.func26, Try.ntmps26
  go_wp2_with fail
  refine Plan.start (Held (w.heap.size + 1) (w.alloc (.cells #[.string mk, .int .i64 len, .int .i64 spare, .string pad, .int .i64 k, .int .i64 b, .int .i64 v, .int .i64 m, .string p] 51))) [(0, true), (1, true), (2, true), (3, true), (4, true), (6, true), (7, true), (9, true), (10, true), (11, true), (13, true), (14, true), (15, true), (17, true), (18, true), (19, true), (21, true), (22, true), (24, true), (25, true), (26, true), (27, true), (28, true), (5, false), (8, false), (12, false), (16, false), (20, false), (23, false), (29, false), (30, false), (31, true)] (by kernel_rfl) (by kernel_rfl) (by kernel_rfl) (by kernel_rfl) held_same ?_
  simp only [List.map_cons, List.map_nil, List.getElem?_toArray, List.getElem?_cons_zero, List.getElem?_cons_succ]
  repeat (refine Plan.take ?_ (by rfl) ?_ ?_; rotate_left; (· rintro w9 ⟨hS9, -⟩; go_simp; all_goals (with_reducible rfl)); simp only [Act.put, List.setIfInBounds_toArray, List.set_cons_zero, List.set_cons_succ])
  have hS0 : Held (w.heap.size + 1) (w.alloc (.cells #[.string mk, .int .i64 len, .int .i64 spare, .string pad, .int .i64 k, .int .i64 b, .int .i64 v, .int .i64 m, .string p] 51)) (w.alloc (.cells #[.string mk, .int .i64 len, .int .i64 spare, .string pad, .int .i64 k, .int .i64 b, .int .i64 v, .int .i64 m, .string p] 51)).drew := held_same
  refine Plan.call (by rfl) 38 _ ?_ (H1.out _) ?_
  · go_simp
  rintro e w1 ⟨rfl, hb1⟩
  have hS1 := held_call (by simp) hS0 hb1
  refine ⟨_, rfl, hS1, ?_⟩
  simp only [Act.put, List.setIfInBounds_toArray, List.set_cons_zero, List.set_cons_succ]
  refine Plan.call (by rfl) 38 _ ?_ (H2.out _) ?_
  · go_simp
  rintro e w2 ⟨rfl, hb2⟩
  have hS2 := held_call (by simp) hS1 hb2
  refine ⟨_, rfl, hS2, ?_⟩
  simp only [Act.put, List.setIfInBounds_toArray, List.set_cons_zero, List.set_cons_succ]
  refine Plan.call (by rfl) 38 _ ?_ (H3.out _) ?_
  · go_simp
  rintro e w3 ⟨rfl, hb3⟩
  have hS3 := held_call (by simp) hS2 hb3
  refine ⟨_, rfl, hS3, ?_⟩
  simp only [Act.put, List.setIfInBounds_toArray, List.set_cons_zero, List.set_cons_succ]
  refine Plan.call (by rfl) 38 _ ?_ (H4.out _) ?_
  · go_simp
  rintro e w4 ⟨rfl, hb4⟩
  have hS4 := held_call (by simp) hS3 hb4
  refine ⟨_, rfl, hS4, ?_⟩
  simp only [Act.put, List.setIfInBounds_toArray, List.set_cons_zero, List.set_cons_succ]
  refine Plan.call (by rfl) 38 _ ?_ (H5.out _) ?_
  · go_simp
  rintro e w5 ⟨rfl, hb5⟩
  have hS5 := held_call (by simp) hS4 hb5
  refine ⟨_, rfl, hS5, ?_⟩
  simp only [Act.put, List.setIfInBounds_toArray, List.set_cons_zero, List.set_cons_succ]
  refine Plan.call (by rfl) 38 _ ?_ (H6.out _) ?_
  · go_simp
  rintro e w6 ⟨rfl, hb6⟩
  have hS6 := held_call (by simp) hS5 hb6
  refine ⟨_, rfl, hS6, ?_⟩
  simp only [Act.put, List.setIfInBounds_toArray, List.set_cons_zero, List.set_cons_succ]
  refine Plan.make (by rfl) (.slice (some ⟨w6.heap.size, 0, none⟩) 9 9) (w6.alloc (.cells #[.string mk, .string X1, .string X2, .string X3, .string X4, .string X5, .string X6, .string p, .string pad] 9)) ?_ (held_alloc (by simp) hS6 _) ?_
  · go_simp
  simp only [Act.put, List.setIfInBounds_toArray, List.set_cons_zero, List.set_cons_succ]
  refine Plan.call (by rfl) 32 _ ?_ (H7.out w6 _ _ rfl rfl) ?_
  · go_simp
  rintro e w7 ⟨rfl, hb7⟩
  have hS7 := held_call (by simp) (held_alloc (by simp) hS6 _) hb7
  refine ⟨_, rfl, hS7, ?_⟩
  simp only [Act.put, List.setIfInBounds_toArray, List.set_cons_zero, List.set_cons_succ]
  repeat (refine Plan.take ?_ (by rfl) ?_ ?_; rotate_left; (· rintro w9 ⟨hS9, -⟩; go_simp; all_goals (with_reducible rfl)); simp only [Act.put, List.setIfInBounds_toArray, List.set_cons_zero, List.set_cons_succ])
  refine Plan.ends ?_
  go_wp2_with fail
  go_ret
  exact ⟨rfl, ((Below.refl _ _).alloc (Nat.le_refl _) _).trans (hS7.2.mono (Nat.le_succ _))⟩

theorem putL_fit (n : Int) (k : Nat) (h1 : 1 ≤ k) (h7 : k ≤ 7) (h0 : 0 ≤ n) (hn : n < ((256 ^ k : Nat) : Int)) : CodecMath.putL n k = CodecMath.bytes n.toNat k := by
  rw [CodecMath.putL_ok]
  · rfl
  · simp only [CodecMath.okPut, Bool.and_eq_true, decide_eq_true_eq, Int.toNat_natCast]
    omega
theorem body_parts {k b v m : Int} {p : ByteArray} (h : RecMath.checkE (mk k b v m p) = 0) :
    parts [90, 65] p.size 0 (List.replicate (20 - p.size) 0) k b v m p.data.toList = RecMath.body (mk k b v m p) := by
  obtain ⟨h1, h2, h3, h4, h5, h6, h7, h8, h9, -, -⟩ := RecMath.check_ok h
  rw [mk_len] at h9
  simp only [mk] at h1 h2 h3 h4 h5 h6 h7 h8
  have e1 := putL_fit k 1 (by decide) (by decide) (by omega) (by simp; omega)
  have e2 := putL_fit p.size 1 (by decide) (by decide) (by omega) (by simp; omega)
  have e3 := putL_fit b 4 (by decide) (by decide) (by omega) (by simp; omega)
  have e4 := putL_fit v 6 (by decide) (by decide) (by omega) (by simp; omega)
  have e5 := putL_fit m 1 (by decide) (by decide) (by omega) (by simp; omega)
  have e6 : CodecMath.putL 0 1 = [0] := by decide
  simp only [Int.cast_ofNat_Int] at e1 e2 e3 e4 e5
  unfold parts RecMath.body RecMath.pad
  rw [e1, e2, e3, e4, e5, e6, mk_len]
  simp only [mk, List.append_assoc, Int.toNat_natCast]
set_option maxHeartbeats 400000 in
theorem encode_any (k b v m : Int) (p : ByteArray) (w : World) :
    Calls Try.prog 9 #[.agg #[.int .i64 k, .int .i64 b, .int .i64 v, .int .i64 m, .string p]] w fun e w' => e = .returned (.tuple #[.string ⟨(RecMath.encL (mk k b v m p)).toArray⟩, .int .i64 (RecMath.checkE (mk k b v m p))]) ∧ Below w.heap.size w w' := by
  have hc := check_any k b v m p
  by_cases h : RecMath.checkE (mk k b v m p) = 0
  · have hp := (RecMath.check_ok h).2.2.2.2.2.2.2.2.1
    rw [mk_len] at hp
    have hi := fun w => imageOf_ok k b v m p w hp
    have hs := fun w => sector_any ⟨#[90, 65]⟩ ⟨(List.replicate (20 - p.size) (0 : UInt8)).toArray⟩ p p.size 0 k b v m w (by show 2 ≤ 1000; omega) (by rw [zeros_size]; omega) (by omega)
    have hb := body_parts h
    rw [show (⟨#[90, 65]⟩ : ByteArray).data.toList = [90, 65] from rfl, toList_mk, hb] at hs
    rw [show RecMath.encL (mk k b v m p) = RecMath.sealL (RecMath.body (mk k b v m p)) from if_pos h]
    rw [h] at hc ⊢
    generalize (⟨(RecMath.sealL (RecMath.body (mk k b v m p))).toArray⟩ : ByteArray) = SS at hs ⊢
    generalize (⟨(List.replicate (20 - p.size) (0 : UInt8)).toArray⟩ : ByteArray) = Z at hs hi
    have HC := Lib.hid hc
    have HI := Lib.hid hi
    have HS := Lib.hid hs
    clear hc hi hs hb h
    go_enter Try.func9, Try.ntmps9
    go_wp2_with (first
      | (go_at_call 13; ((with_reducible refine (HC.out _).mono ?_); rintro e w1 ⟨rfl, hb1⟩; obtain ⟨hc1, hf1⟩ := bcell hb1))
      | (go_at_call 25; ((with_reducible refine (HI.out _).mono ?_); rintro e w2 ⟨rfl, hb2⟩))
      | (go_at_call 26; ((with_reducible refine (HS.out _).mono ?_); rintro e w3 ⟨rfl, hb3⟩)))
    go_ret2
    exact ⟨rfl, (((Below.refl _ _).alloc (Nat.le_refl _) _).trans (hb1.mono (by simp))).trans ((hb2.trans (hb3.mono hb2.size)).mono (by have := hb1.size; simp at this; omega))⟩
  · rw [show RecMath.encL (mk k b v m p) = [] from if_neg h]
    generalize RecMath.checkE (mk k b v m p) = E at *
    have hE : (E != 0) = true := by simpa using h
    have HC := Lib.hid hc
    clear hc h
    go_enter Try.func9, Try.ntmps9
    go_wp2_with (first
      | (go_at_call 13; ((with_reducible refine (HC.out _).mono ?_); rintro e w1 ⟨rfl, hb1⟩; obtain ⟨hc1, hf1⟩ := bcell hb1)))
    go_ret2
    exact ⟨rfl, ((Below.refl _ _).alloc (Nat.le_refl _) _).trans (hb1.mono (by simp))⟩

end Go.Proofs.Ythpfkmdnpfgjlaa
