/- Texts that belong together, part 13. -/
import Derived.Test.YthhggiifbldaeaaPack12
import Derived.Lib.Join

/- The walk of the document's New of epochs. -/
namespace Go.Proofs.Ythhggiifbldaeaa.Ents
open Go.RowKit Plan EntMath CntMath EpoMath Rws
/-- what New leaves -/
def ENewPost (w : World) (E : Epo) (e : Int) (r : Ending) (w' : World) : Prop :=
  ∃ g a n c b m d, r = .returned (.tuple #[epoV g a n c b m d, .int .i64 e]) ∧ PList w' (fun b => w.heap.size ≤ b) g a n c b m d E ∧ Below w.heap.size w w'
set_option maxHeartbeats 8000000 in
set_option maxRecDepth 20000 in
theorem refENew_any (s : Int) (w : World) : Calls Try.prog 18 #[.int .i64 s] w (ENewPost w (newE s) (newEE s)) := by
  have hA := (Below.refl w.heap.size w).alloc (Nat.le_refl _) (epoRow 0 none 0 0 none 0 0)
  have hr0 := heap_alloc_new w (epoRow 0 none 0 0 none 0 0)
  by_cases hs : 1 ≤ s ∧ s ≤ 4
  · obtain ⟨n, rfl⟩ : ∃ n : Nat, s = (n : Int) := ⟨s.toNat, by omega⟩
    have h1 : newE (n : Int) = ⟨0, List.replicate n (-1), []⟩ := by unfold newE; rw [if_pos hs, Int.toNat_natCast]
    have h2 : newEE (n : Int) = 0 := if_pos hs
    rw [h1, h2]
    have hmk := fun w => run_make_row' (P := Try.prog) 22 3 (.int .i64 0) 8 Try.underlying22 int_row rfl .i64 .i64 n (by omega) (by omega) w
    have hg1 : decide ((n : Int) < 1) = false := by simp; omega
    have hg2 : decide ((4 : Int) < (n : Int)) = false := by simp; omega
    have hg3 : ¬ (n : Int) < 1 := by omega
    have hg4 : ¬ (4 : Int) < (n : Int) := by omega
    have hg5 : decide (4 < n) = false := by simp; omega
    have hnm : n ≤ maxLen := by unfold maxLen; omega
    have hn1 : 1 ≤ n := by omega
    have hn2 : n ≤ 4 := by omega
    clear h1 h2 hs
    go_enter Try.func18, Try.ntmps18
    generalize hw0 : w.alloc (epoRow 0 none 0 0 none 0 0) = w0 at *
    have hz0 : w.heap.size < w0.heap.size := e_lt hr0
    go_wp2_with fail
    rw [show (Obj.cells (madeCells #[.int .i64 0] n) 3) = intRow (List.replicate n 0) from zero_row n]
    have G1 := heap_first w0 (intRow (List.replicate n 0)) (epoRow 0 (some ⟨w0.heap.size, 0, none⟩) n n none 0 0)
    have G2 := heap_second w0 (intRow (List.replicate n 0)) (epoRow 0 (some ⟨w0.heap.size, 0, none⟩) n n none 0 0)
    have hr2 := e_al (e_al hr0 (intRow (List.replicate n 0))) (epoRow 0 (some ⟨w0.heap.size, 0, none⟩) n n none 0 0)
    have hb0 := hA.alloc hA.size (intRow (List.replicate n 0))
    have hb := hb0.alloc hb0.size (epoRow 0 (some ⟨w0.heap.size, 0, none⟩) n n none 0 0)
    have kX : w0.heap.size ≠ w0.heap.size + 1 := by omega
    have kX2 : w.heap.size < w0.heap.size + 1 := by omega
    clear hmk hw0 hA hr0 hb0
    generalize (w0.alloc (intRow (List.replicate n 0))).alloc (epoRow 0 (some ⟨w0.heap.size, 0, none⟩) n n none 0 0) = w3 at *
    generalize w0.heap.size + 1 = X at *
    generalize w0.heap.size = g at *
    go_loopw [5] (fun x wr => ∃ (j : Nat) (Z : List Int), x = .int .i64 (j : Int) ∧ j ≤ n ∧ Z.length = n ∧ RowKit.Hid (∀ i : Nat, i < j → Z[i]? = some (-1)) ∧ wr.heap[w.heap.size]? = some (epoRow 0 none 0 0 none 0 0) ∧ wr.heap[X]? = some (epoRow 0 (some ⟨g, 0, none⟩) n n none 0 0) ∧ wr.heap[g]? = some (intRow Z) ∧ Below w.heap.size w wr) (fun x _ => n - (intOf x).toNat)
    case atStart => exact ⟨0, _, rfl, by omega, List.length_replicate .., Lib.hid (fun i h => absurd h (Nat.not_lt_zero _)), hr2, G2, G1, hb⟩
    case round =>
      clear hr2 G2 G1 hb
      obtain ⟨j, Z, rfl, hj, hZ, hall, hr, hX, hg, hb⟩ := hrel
      by_cases hlt : j < n
      · have hjI : (j : Int) < (n : Int) := by omega
        obtain ⟨y, hy⟩ : ∃ y, Z[j]? = some y := ⟨_, List.getElem?_eq_getElem (by omega)⟩
        have hgc := row_cell hg hy
        obtain ⟨c0, c1, c2⟩ := three_row hX
        have HN := Lib.hid (show ∀ i : Nat, i < j + 1 → (Z.set j (-1))[i]? = some (-1) from fun i hi => by
          rw [List.getElem?_set]
          by_cases h : j = i
          · subst h
            rw [if_pos rfl, if_pos (by omega)]
          · rw [if_neg h]
            exact hall.out i (by omega))
        go_wp2_with (first
          | ((with_reducible refine store_int_c 3 (.tmp 24) (.const (.int .i64 (-1))) g j .i64 (-1) ?_ ?_ ⟨_, hgc⟩ (free_row_c hg) Put.int_info1 ?_); (· rfl); (· rfl); simp only [Act.put]; rw [setCell_eq_setRow _ _ _ _ _ _ _ hg]; rw [show (intC Z).toArray.setIfInBounds j (.int .i64 (-1)) = (intC (Z.set j (-1))).toArray from by rw [List.setIfInBounds_toArray, intC_set]]; have hX := (setRow_other wr g X (intC (Z.set j (-1))).toArray (Ne.symm kX)).trans hX; have hr := (setRow_other wr g w.heap.size (intC (Z.set j (-1))).toArray (by omega)).trans hr; have hg := setRow_heap wr g _ (intC (Z.set j (-1))).toArray _ _ hg; have hb := below_setRow hb (show w.heap.size ≤ g by omega) (intC (Z.set j (-1))).toArray; clear hgc c0 c1 c2; generalize wr.setRow g (intC (Z.set j (-1))).toArray = w8 at *))
        go_roundw
        case rel => exact ⟨j + 1, Z.set j (-1), by go_num, by omega, by rw [List.length_set, hZ], HN, hr, hX, hg, hb⟩
        case measure => simp [intOf]; omega
      · obtain rfl : j = n := by omega
        obtain rfl := all_is hZ hall.out
        have hrI : ¬ (j : Int) < (j : Int) := by omega
        go_wp2_with (first
          | ((with_reducible refine Plan.load_lit 39 (.tmp 4) (X) ?_ hX Try.underlying39 ?_ ?_ ?_); (· rfl); (· rfl); (· exact epo_info); simp only [Act.put, List.setIfInBounds_toArray, List.set_cons_zero, List.set_cons_succ])
          | ((with_reducible refine Plan.store_lit 39 (.tmp 2) _ (w.heap.size) ?_ hr ?_ ?_ ?_ ?_ ?_ ?_); rotate_left; (· rfl); (· rfl); (· exact epo_info); (· rfl); (· simp [Value.oneCell']); simp only [Act.put]))
        have g3 := (setRow_other wr w.heap.size g #[.int .i64 0, .slice (some ⟨g, 0, none⟩) j j, .slice none 0 0] (by omega)).trans hg
        exact bodyPost_ret (Plan.results_cell_tmp (p := 2) (q := 3) rfl _ _ _ _ _ _ _ rfl (setRow_heap _ _ _ _ _ _ hr) Try.underlying39 rfl epo_info) rfl ⟨_, _, _, _, _, _, _, rfl, ⟨rfl, row_ilist g3 (by simp) hnm (by omega), TList.nil _ _⟩, below_setRow hb (Nat.le_refl _) _⟩
  · have h1 : newE s = ⟨0, [], []⟩ := if_neg hs
    have h2 : newEE s = 1 := if_neg hs
    rw [h1, h2]
    clear h1 h2
    rcases (show s < 1 ∨ (¬ s < 1 ∧ 4 < s) by omega) with h | ⟨h, h3⟩
    · have d1 : decide (s < 1) = true := by simpa using h
      go_enter Try.func18, Try.ntmps18
      go_wp2_with (first
        | ((with_reducible refine Plan.store_lit 39 (.tmp 2) _ (w.heap.size) ?_ hr0 ?_ ?_ ?_ ?_ ?_ ?_); rotate_left; (· rfl); (· rfl); (· exact epo_info); (· rfl); (· simp [Value.oneCell']); simp only [Act.put]))
      exact bodyPost_ret (Plan.results_cell_tmp (p := 2) (q := 3) rfl _ _ _ _ _ _ _ rfl (setRow_heap _ _ _ _ _ _ hr0) Try.underlying39 rfl epo_info) rfl ⟨_, _, _, _, _, _, _, rfl, ⟨rfl, IList.nil _ _, TList.nil _ _⟩, below_setRow hA (Nat.le_refl _) _⟩
    · have d1 : decide (s < 1) = false := by simpa using h
      have d2 : decide (4 < s) = true := by simpa using h3
      go_enter Try.func18, Try.ntmps18
      go_wp2_with (first
        | ((with_reducible refine Plan.store_lit 39 (.tmp 2) _ (w.heap.size) ?_ hr0 ?_ ?_ ?_ ?_ ?_ ?_); rotate_left; (· rfl); (· rfl); (· exact epo_info); (· rfl); (· simp [Value.oneCell']); simp only [Act.put]))
      exact bodyPost_ret (Plan.results_cell_tmp (p := 2) (q := 3) rfl _ _ _ _ _ _ _ rfl (setRow_heap _ _ _ _ _ _ hr0) Try.underlying39 rfl epo_info) rfl ⟨_, _, _, _, _, _, _, rfl, ⟨rfl, IList.nil _ _, TList.nil _ _⟩, below_setRow hA (Nat.le_refl _) _⟩
end Go.Proofs.Ythhggiifbldaeaa.Ents

/- The walks of the encoder: seal, imageOf, sector, Encode, and the document's own, for any record. -/
namespace Go.Proofs.Ythhggiifbldaeaa
open Go.RowKit Plan

/-- the world behind a record's box -/
abbrev boxW (w : World) (k b v m : Int) (p : ByteArray) : World := w.alloc (.cells #[.int .i64 k, .int .i64 b, .int .i64 v, .int .i64 m, .string p] 81)
theorem flat_join (xs : List (List UInt8)) : Lib.join xs [] = xs.flatten := by
  cases xs with
  | nil => rfl
  | cons x r => rw [Lib.join_cons]; simp [Lib.joinTail]
theorem seal_bytes (L : List UInt8) : (⟨L.toArray⟩ : ByteArray) ++ (⟨(CodecMath.bytes (CrcMath.crc 0 L) 4).toArray⟩ : ByteArray) = ⟨(RecMath.sealL L).toArray⟩ := by
  apply ByteArray.ext
  simp [RecMath.sealL]
theorem size_bytes (L : List UInt8) : (⟨L.toArray⟩ : ByteArray).size = L.length := by
  show L.toArray.size = L.length
  simp
theorem put_crc (L : List UInt8) : CodecMath.putL (CrcMath.crc 0 L : Nat) 4 = CodecMath.bytes (CrcMath.crc 0 L) 4 := by
  have h := CrcMath.crc_lt 0 L
  rw [CodecMath.putL_ok]
  · rfl
  · simp [CodecMath.okPut]; omega
/-- the bytes of a sector ahead of its checksum, in its parts -/
def parts (mk : List UInt8) (len spare : Int) (pad : List UInt8) (k b v m : Int) (p : List UInt8) : List UInt8 :=
  mk ++ (CodecMath.putL k 1 ++ (CodecMath.putL len 1 ++ (CodecMath.putL b 4 ++ (CodecMath.putL v 6 ++ (CodecMath.putL m 1 ++ (CodecMath.putL spare 1 ++ (p ++ pad)))))))
theorem putL_len (n size : Int) (h : size.toNat ≤ 7) : (CodecMath.putL n size).length ≤ 7 := by
  unfold CodecMath.putL
  split
  · rw [CodecMath.bytes_length]; exact h
  · simp
theorem toList_mk (l : List UInt8) : (⟨l.toArray⟩ : ByteArray).data.toList = l := by simp
theorem putL_fit (n : Int) (k : Nat) (h1 : 1 ≤ k) (h7 : k ≤ 7) (h0 : 0 ≤ n) (hn : n < ((256 ^ k : Nat) : Int)) : CodecMath.putL n k = CodecMath.bytes n.toNat k := by
  rw [CodecMath.putL_ok]
  · rfl
  · simp only [CodecMath.okPut, Bool.and_eq_true, decide_eq_true_eq, Int.toNat_natCast]
    omega
theorem body_parts {k b v m : Int} {p : ByteArray} (h : RecMath.checkE (mk k b v m p) = 0) :
    parts [90, 65] p.size 0 (List.replicate (20 - p.size) 0) k b v m p.data.toList = RecMath.body (mk k b v m p) := by
  obtain ⟨h1, h2, h3, h4, h5, h6, h7, h8, h9, -, -⟩ := RecMath.check_ok h
  rw [mk_len] at h9
  simp only [mk] at h1 h2 h3 h4 h5 h6 h7 h8
  have e1 := putL_fit k 1 (by decide) (by decide) (by omega) (by simp; omega)
  have e2 := putL_fit p.size 1 (by decide) (by decide) (by omega) (by simp; omega)
  have e3 := putL_fit b 4 (by decide) (by decide) (by omega) (by simp; omega)
  have e4 := putL_fit v 6 (by decide) (by decide) (by omega) (by simp; omega)
  have e5 := putL_fit m 1 (by decide) (by decide) (by omega) (by simp; omega)
  have e6 : CodecMath.putL 0 1 = [0] := by decide
  simp only [Int.cast_ofNat_Int] at e1 e2 e3 e4 e5
  unfold parts RecMath.body RecMath.pad
  rw [e1, e2, e3, e4, e5, e6, mk_len]
  simp only [mk, List.append_assoc, Int.toNat_natCast]
end Go.Proofs.Ythhggiifbldaeaa

/- The walks of the document's own encoder: Seal, Encode, for any record. -/
namespace Go.Proofs.Ythhggiifbldaeaa
open Go.RowKit Plan

theorem refSeal_any (s : ByteArray) (w : World) (h : s.size ≤ 1000000) :
    Calls Try.prog 52 #[.string s] w fun e w' => e = .returned (.string ⟨(RecMath.sealL s.data.toList).toArray⟩) ∧ Below w.heap.size w w' := by
  have hs := fun w => refsum_any s (by unfold maxLen; omega) w
  have hp := number_any (CrcMath.crc 0 s.data.toList : Nat) 4
  rw [put_crc] at hp
  have hb := seal_bytes s.data.toList
  have hsz2 := size_bytes (CodecMath.bytes (CrcMath.crc 0 s.data.toList) 4)
  rw [CodecMath.bytes_length] at hsz2
  have hcl := CrcMath.crc_lt 0 s.data.toList
  rw [show (⟨s.data.toList.toArray⟩ : ByteArray) = s by simp] at hb
  generalize (⟨(RecMath.sealL s.data.toList).toArray⟩ : ByteArray) = SS at hb ⊢
  generalize (⟨(CodecMath.bytes (CrcMath.crc 0 s.data.toList) 4).toArray⟩ : ByteArray) = CC at *
  generalize CrcMath.crc 0 s.data.toList = C at *
  have hsum : s.size + CC.size ≤ 9223372036854775807 := by omega
  have HS := Lib.hid hs
  have HP := Lib.hid hp
  have HB := Lib.hid hb
  clear hs hp hb hsz2
  go_enter Try.func52, Try.ntmps52
  go_wp2_with (first
    | (go_at_call 61; ((with_reducible refine (HS.out _).mono ?_); rintro e w2 ⟨rfl, rfl⟩))
    | (go_at_call 50; ((with_reducible refine (HP.out _).mono ?_); rintro e w3 ⟨rfl, hb3⟩)))
  go_ret
  exact ⟨by rw [HB.out]; rfl, hb3⟩

theorem chain_bytes (l1 l2 l3 l4 l5 l6 : List UInt8) : (⟨#[90, 65]⟩ : ByteArray) ++ ⟨l1.toArray⟩ ++ ⟨l2.toArray⟩ ++ ⟨l3.toArray⟩ ++ ⟨l4.toArray⟩ ++ ⟨l5.toArray⟩ ++ ⟨#[0]⟩ ++ ⟨l6.toArray⟩ = ⟨([90, 65] ++ (l1 ++ (l2 ++ (l3 ++ (l4 ++ (l5 ++ ([0] ++ l6))))))).toArray⟩ := by
  apply ByteArray.ext
  simp
theorem body_chain {k b v m : Int} {p : ByteArray} (h : RecMath.checkE (mk k b v m p) = 0) :
    [90, 65] ++ (CodecMath.putL k 1 ++ (CodecMath.putL p.size 1 ++ (CodecMath.putL b 4 ++ (CodecMath.putL v 6 ++ (CodecMath.putL m 1 ++ ([0] ++ padL p.data.toList 20)))))) = RecMath.body (mk k b v m p) := by
  rw [← body_parts h]
  unfold parts padL
  rw [size_list, show CodecMath.putL 0 1 = [0] by decide]
set_option maxHeartbeats 1000000 in
set_option maxRecDepth 20000 in
theorem refEncode_any (k b v m : Int) (p : ByteArray) (w : World) :
    Calls Try.prog 37 #[.agg #[.int .i64 k, .int .i64 b, .int .i64 v, .int .i64 m, .string p]] w fun e w' => e = .returned (.tuple #[.string ⟨(RecMath.encL (mk k b v m p)).toArray⟩, .int .i64 (RecMath.checkE (mk k b v m p))]) ∧ Below w.heap.size w w' := by
  have hc := refCheck_any k b v m p
  by_cases h : RecMath.checkE (mk k b v m p) = 0
  · have hp := (RecMath.check_ok h).2.2.2.2.2.2.2.2.1
    rw [mk_len] at hp
    have g1 := number_any k 1
    have g2 := number_any p.size 1
    have g3 := number_any b 4
    have g4 := number_any v 6
    have g5 := number_any m 1
    have g6 := fun w => refPad_any p 20 w (by decide)
    have l1 := size_bytes (CodecMath.putL k 1)
    have l2 := size_bytes (CodecMath.putL p.size 1)
    have l3 := size_bytes (CodecMath.putL b 4)
    have l4 := size_bytes (CodecMath.putL v 6)
    have l5 := size_bytes (CodecMath.putL m 1)
    have l6 := size_bytes (padL p.data.toList 20)
    have k1 := putL_len k 1 (by decide)
    have k2 := putL_len p.size 1 (by decide)
    have k3 := putL_len b 4 (by decide)
    have k4 := putL_len v 6 (by decide)
    have k5 := putL_len m 1 (by decide)
    have k6 : (padL p.data.toList 20).length ≤ 20 := by rw [padL, List.length_append, List.length_replicate, size_list]; omega
    have hch := chain_bytes (CodecMath.putL k 1) (CodecMath.putL p.size 1) (CodecMath.putL b 4) (CodecMath.putL v 6) (CodecMath.putL m 1) (padL p.data.toList 20)
    rw [body_chain h] at hch
    have hs := fun w => refSeal_any ⟨(RecMath.body (mk k b v m p)).toArray⟩ w (by rw [size_bytes, RecMath.body_length (by rw [mk_len]; exact hp)]; decide)
    rw [toList_mk] at hs
    rw [show RecMath.encL (mk k b v m p) = RecMath.sealL (RecMath.body (mk k b v m p)) from if_pos h]
    rw [h] at hc ⊢
    generalize (⟨(RecMath.sealL (RecMath.body (mk k b v m p))).toArray⟩ : ByteArray) = SS at hs ⊢
    generalize (⟨(RecMath.body (mk k b v m p)).toArray⟩ : ByteArray) = BB at hs hch
    generalize (⟨(CodecMath.putL k 1).toArray⟩ : ByteArray) = X1 at *
    generalize (⟨(CodecMath.putL p.size 1).toArray⟩ : ByteArray) = X2 at *
    generalize (⟨(CodecMath.putL b 4).toArray⟩ : ByteArray) = X3 at *
    generalize (⟨(CodecMath.putL v 6).toArray⟩ : ByteArray) = X4 at *
    generalize (⟨(CodecMath.putL m 1).toArray⟩ : ByteArray) = X5 at *
    generalize (⟨(padL p.data.toList 20).toArray⟩ : ByteArray) = X6 at *
    have z1 : X1.size ≤ 7 := by omega
    have z2 : X2.size ≤ 7 := by omega
    have z3 : X3.size ≤ 7 := by omega
    have z4 : X4.size ≤ 7 := by omega
    have z5 : X5.size ≤ 7 := by omega
    have z6 : X6.size ≤ 20 := by omega
    have y0 : (⟨#[90, 65]⟩ : ByteArray).size = 2 := rfl
    have y7 : (⟨#[0]⟩ : ByteArray).size = 1 := rfl
    have s1 : 2 + X1.size ≤ 9223372036854775807 := by omega
    have s2 : 2 + X1.size + X2.size ≤ 9223372036854775807 := by omega
    have s3 : 2 + X1.size + X2.size + X3.size ≤ 9223372036854775807 := by omega
    have s4 : 2 + X1.size + X2.size + X3.size + X4.size ≤ 9223372036854775807 := by omega
    have s5 : 2 + X1.size + X2.size + X3.size + X4.size + X5.size ≤ 9223372036854775807 := by omega
    have s6 : 2 + X1.size + X2.size + X3.size + X4.size + X5.size + 1 ≤ 9223372036854775807 := by omega
    have s7 : 2 + X1.size + X2.size + X3.size + X4.size + X5.size + 1 + X6.size ≤ 9223372036854775807 := by omega
    clear y0 y7 z1 z2 z3 z4 z5 z6 l1 l2 l3 l4 l5 l6 k1 k2 k3 k4 k5 k6
    have HC := Lib.hid hc
    have H1 := Lib.hid g1
    have H2 := Lib.hid g2
    have H3 := Lib.hid g3
    have H4 := Lib.hid g4
    have H5 := Lib.hid g5
    have H6 := Lib.hid g6
    have HS := Lib.hid hs
    have HB := Lib.hid hch
    clear hc g1 g2 g3 g4 g5 g6 hs hch h
    go_enter Try.func37, Try.ntmps37
    go_wp2_with (first
      | (go_at_call 49; ((with_reducible refine (HC.out _).mono ?_); rintro e w1 ⟨rfl, hb1⟩; obtain ⟨hc1, hf1⟩ := bcell hb1)))
    have hz : w.heap.size + 1 ≤ w1.heap.size := by have := hb1.size; simpa using this
    refine Plan.start (Held (w.heap.size + 1) w1) [(0, true), (1, true), (4, true), (5, true), (6, true), (9, true), (10, true), (13, true), (14, true), (17, true), (18, true), (22, true), (23, true), (2, false), (3, true), (7, false), (8, true), (11, false), (12, true), (15, false), (16, true), (19, false), (20, true), (21, true), (24, false), (25, true), (26, true)] (by kernel_rfl) (by kernel_rfl) (by kernel_rfl) (by kernel_rfl) held_same ?_
    simp only [List.map_cons, List.map_nil, List.getElem?_toArray, List.getElem?_cons_zero, List.getElem?_cons_succ]
    repeat (refine Plan.take ?_ (by rfl) ?_ ?_; rotate_left; (· rintro w9 ⟨hS9, -⟩; go_simp; (try rw [if_neg (by omega)]); all_goals (with_reducible rfl)); simp only [Act.put, List.setIfInBounds_toArray, List.set_cons_zero, List.set_cons_succ])
    have hS1 : Held (w.heap.size + 1) w1 w1.drew := held_same
    refine Plan.call (by rfl) 50 _ ?_ (H1.out _) ?_
    · go_simp
    rintro e w2 ⟨rfl, hb2⟩
    have hS2 := held_call hz hS1 hb2
    refine ⟨_, rfl, hS2, ?_⟩
    simp only [Act.put, List.setIfInBounds_toArray, List.set_cons_zero, List.set_cons_succ]
    repeat (refine Plan.take ?_ (by rfl) ?_ ?_; rotate_left; (· rintro w9 ⟨hS9, -⟩; go_simp; (try rw [if_neg (by omega)]); all_goals (with_reducible rfl)); simp only [Act.put, List.setIfInBounds_toArray, List.set_cons_zero, List.set_cons_succ])
    refine Plan.call (by rfl) 50 _ ?_ (H2.out _) ?_
    · go_simp
    rintro e w3 ⟨rfl, hb3⟩
    have hS3 := held_call hz hS2 hb3
    refine ⟨_, rfl, hS3, ?_⟩
    simp only [Act.put, List.setIfInBounds_toArray, List.set_cons_zero, List.set_cons_succ]
    repeat (refine Plan.take ?_ (by rfl) ?_ ?_; rotate_left; (· rintro w9 ⟨hS9, -⟩; go_simp; (try rw [if_neg (by omega)]); all_goals (with_reducible rfl)); simp only [Act.put, List.setIfInBounds_toArray, List.set_cons_zero, List.set_cons_succ])
    refine Plan.call (by rfl) 50 _ ?_ (H3.out _) ?_
    · go_simp
    rintro e w4 ⟨rfl, hb4⟩
    have hS4 := held_call hz hS3 hb4
    refine ⟨_, rfl, hS4, ?_⟩
    simp only [Act.put, List.setIfInBounds_toArray, List.set_cons_zero, List.set_cons_succ]
    repeat (refine Plan.take ?_ (by rfl) ?_ ?_; rotate_left; (· rintro w9 ⟨hS9, -⟩; go_simp; (try rw [if_neg (by omega)]); all_goals (with_reducible rfl)); simp only [Act.put, List.setIfInBounds_toArray, List.set_cons_zero, List.set_cons_succ])
    refine Plan.call (by rfl) 50 _ ?_ (H4.out _) ?_
    · go_simp
    rintro e w5 ⟨rfl, hb5⟩
    have hS5 := held_call hz hS4 hb5
    refine ⟨_, rfl, hS5, ?_⟩
    simp only [Act.put, List.setIfInBounds_toArray, List.set_cons_zero, List.set_cons_succ]
    repeat (refine Plan.take ?_ (by rfl) ?_ ?_; rotate_left; (· rintro w9 ⟨hS9, -⟩; go_simp; (try rw [if_neg (by omega)]); all_goals (with_reducible rfl)); simp only [Act.put, List.setIfInBounds_toArray, List.set_cons_zero, List.set_cons_succ])
    refine Plan.call (by rfl) 50 _ ?_ (H5.out _) ?_
    · go_simp
    rintro e w6 ⟨rfl, hb6⟩
    have hS6 := held_call hz hS5 hb6
    refine ⟨_, rfl, hS6, ?_⟩
    simp only [Act.put, List.setIfInBounds_toArray, List.set_cons_zero, List.set_cons_succ]
    repeat (refine Plan.take ?_ (by rfl) ?_ ?_; rotate_left; (· rintro w9 ⟨hS9, -⟩; go_simp; (try rw [if_neg (by omega)]); all_goals (with_reducible rfl)); simp only [Act.put, List.setIfInBounds_toArray, List.set_cons_zero, List.set_cons_succ])
    refine Plan.call (by rfl) 51 _ ?_ (H6.out _) ?_
    · go_simp
    rintro e w7 ⟨rfl, hb7⟩
    have hS7 := held_call hz hS6 hb7
    refine ⟨_, rfl, hS7, ?_⟩
    simp only [Act.put, List.setIfInBounds_toArray, List.set_cons_zero, List.set_cons_succ]
    repeat (refine Plan.take ?_ (by rfl) ?_ ?_; rotate_left; (· rintro w9 ⟨hS9, -⟩; go_simp; (try rw [if_neg (by omega)]); all_goals (with_reducible rfl)); simp only [Act.put, List.setIfInBounds_toArray, List.set_cons_zero, List.set_cons_succ])
    refine Plan.ends ?_
    go_wp2_with (go_at_call 52; rw [HB.out]; ((with_reducible refine (HS.out _).mono ?_); rintro e w8 ⟨rfl, hb8⟩))
    go_ret2
    exact ⟨rfl, ((((Below.refl _ _).alloc (Nat.le_refl _) _).trans (hb1.mono (by simp))).trans ((hS7.2.mono (Nat.le_succ _)))).trans (hb8.mono (by have := hS7.2.size; omega))⟩
  · rw [show RecMath.encL (mk k b v m p) = [] from if_neg h]
    generalize RecMath.checkE (mk k b v m p) = E at *
    have hE : (E != 0) = true := by simpa using h
    have HC := Lib.hid hc
    clear hc h
    go_enter Try.func37, Try.ntmps37
    go_wp2_with (first
      | (go_at_call 49; ((with_reducible refine (HC.out _).mono ?_); rintro e w1 ⟨rfl, hb1⟩; obtain ⟨hc1, hf1⟩ := bcell hb1)))
    go_ret2
    exact ⟨rfl, ((Below.refl _ _).alloc (Nat.le_refl _) _).trans (hb1.mono (by simp))⟩

end Go.Proofs.Ythhggiifbldaeaa

/- The walk of what the decoder reads in a sector. -/
namespace Go.Proofs.Ythhggiifbldaeaa
open Go.RowKit Plan

/-- a record's cells -/
def recV (r : RecMath.Rec) : Array Value := #[.int .i64 r.kind, .int .i64 r.block, .int .i64 r.version, .int .i64 r.move, .string ⟨r.payload.toArray⟩]
theorem list40 {s : ByteArray} (h : s.size = 40) : s.data.toList.length = 40 := by rw [size_list]; exact h
theorem getN_field {l : List UInt8} (hl : l.length = 40) (a k : Nat) (h1 : 1 ≤ k) (h7 : k ≤ 7) (h : a + k ≤ 40) : CodecMath.getN l a k = (RecMath.field l a k : Nat) := by
  unfold CodecMath.getN
  rw [if_pos]
  · rfl
  · simp only [CodecMath.okArg, CodecMath.okAt, Bool.and_eq_true, decide_eq_true_eq, hl]
    omega
end Go.Proofs.Ythhggiifbldaeaa

/- The walks of the decoder: Decode, and the document's own, for any bytes. -/
namespace Go.Proofs.Ythhggiifbldaeaa
open Go.RowKit Plan

theorem rec_info : (Try.prog.info? 81).map (·.size) = some 5 := by kernel_rfl
theorem ext_list (s : ByteArray) (a b : Nat) : (s.extract a b).data.toList = (s.data.toList.drop a).take (b - a) := by
  simp [List.extract]
theorem ext_seg (s : ByteArray) (a b k : Nat) (h : b = a + k) : (s.extract a b).data.toList = RecMath.seg s.data.toList a k := by
  rw [ext_list, h, Nat.add_sub_cancel_left]
  rfl
theorem ext_36 (s : ByteArray) : (s.extract 0 36).data.toList = s.data.toList.take 36 := by
  rw [ext_list]; rfl
theorem zero_rec : recV RecMath.Rec.zero = #[.int .i64 0, .int .i64 0, .int .i64 0, .int .i64 0, .string ⟨#[]⟩] := rfl
theorem seal_same (s : ByteArray) (hs : s.size = 40) (h : RecMath.field s.data.toList 36 4 = CrcMath.crc 0 (s.data.toList.take 36)) : (⟨(RecMath.sealL (s.data.toList.take 36)).toArray⟩ : ByteArray) = s := by
  rw [(RecMath.seal_iff (list40 hs)).2 h]
theorem seal_other (s : ByteArray) (hs : s.size = 40) (h : RecMath.field s.data.toList 36 4 ≠ CrcMath.crc 0 (s.data.toList.take 36)) : (s.toList == (⟨(RecMath.sealL (s.data.toList.take 36)).toArray⟩ : ByteArray).toList) = false := by
  rw [ByteArray.toList_eq, ByteArray.toList_eq, toList_mk, beq_eq_false_iff_ne]
  intro e
  exact h ((RecMath.seal_iff (list40 hs)).1 e.symm)
/-- what the decoder reads, as the model has it -/
theorem read_mk (s : ByteArray) (n : Nat) (hn : n = min (RecMath.field s.data.toList 3 1) 20) :
    RecMath.read s.data.toList = mk (RecMath.field s.data.toList 2 1 : Nat) (RecMath.field s.data.toList 4 4 : Nat) (RecMath.field s.data.toList 8 6 : Nat) (RecMath.field s.data.toList 14 1 : Nat) (s.extract 16 (16 + n)) := by
  subst hn
  unfold RecMath.read mk
  rw [ext_seg s 16 _ (min (RecMath.field s.data.toList 3 1) 20) rfl]
  rfl
theorem pl_size (s : ByteArray) (hs : s.size = 40) (n : Nat) (hn : n ≤ 20) : (s.extract 16 (16 + n)).size = n := by
  rw [← size_list, ext_seg s 16 _ n rfl, RecMath.seg_len (list40 hs) _ _ (by omega)]
theorem eq_bytes (a b : ByteArray) (l m : List UInt8) (ha : a.data.toList = l) (hb : b.data.toList = m) : (a.toList == b.toList) = (l == m) := by
  rw [ByteArray.toList_eq, ByteArray.toList_eq, ha, hb]
theorem form_bits (s : ByteArray) (n : Nat) (hn : n = min (RecMath.field s.data.toList 3 1) 20) : RecMath.formB s.data.toList =
    (((s.extract 0 2).toList == (⟨#[90, 65]⟩ : ByteArray).toList) && (RecMath.field s.data.toList 3 1 == n) && (RecMath.field s.data.toList 15 1 == 0) && ((s.extract (16 + n) 36).toList == (⟨(List.replicate (20 - n) (0 : UInt8)).toArray⟩ : ByteArray).toList)) := by
  rw [eq_bytes _ _ (s.data.toList.take 2) [90, 65] (by rw [ext_list]; rfl) rfl, eq_bytes _ _ (RecMath.seg s.data.toList (16 + n) (20 - n)) (List.replicate (20 - n) 0) (ext_seg s _ _ _ (by omega)) (toList_mk _)]
  subst hn
  rfl
theorem back_bytes (s : ByteArray) : (⟨s.data.toList.toArray⟩ : ByteArray) = s := by simp
theorem bits_if (w : World) (M PD Z : ByteArray) (F3 n F15 : Nat) (B : Bool) (h : B = ((M.toList == (⟨#[90, 65]⟩ : ByteArray).toList) && (F3 == n) && (F15 == 0) && (PD.toList == Z.toList))) :
    (if M.toList = [90, 65] then
      if (F3 : Int) = (n : Int) then
        if F15 = 0 then
          if PD.toList = Z.toList then Result.ok (Next.value (Value.bool false)) w
          else Result.ok (Next.value (Value.bool true)) w
        else Result.ok (Next.value (Value.bool true)) w
      else Result.ok (Next.value (Value.bool true)) w
    else Result.ok (Next.value (Value.bool true)) w) =
    Result.ok (Next.value (Value.bool (!B))) w := by
  have e : (⟨#[90, 65]⟩ : ByteArray).toList = [90, 65] := by rw [ByteArray.toList_eq]
  rw [h, e]
  by_cases h1 : M.toList = [90, 65]
  · by_cases h2 : F3 = n
    · by_cases h3 : F15 = 0
      · by_cases h4 : PD.toList = Z.toList
        · simp [h1, h2, h3, h4]
        · simp [h1, h2, h3, h4]
      · simp [h1, h2, h3]
    · have h2' : ¬ (F3 : Int) = (n : Int) := by omega
      simp [h1, h2, h2']
  · simp [h1]
end Go.Proofs.Ythhggiifbldaeaa

/- The walk of the document's own decoder, for any bytes. -/
namespace Go.Proofs.Ythhggiifbldaeaa
open Go.RowKit Plan

theorem sum36 (s : ByteArray) (hs : s.size = 40) (w : World) :
    Calls Try.prog 61 #[.string (s.extract 0 36)] w fun e w' => e = .returned (.int .u32 (CrcMath.crc 0 (s.data.toList.take 36) : Nat)) ∧ w = w' := by
  have := refsum_any (s.extract 0 36) (by rw [← size_list, ext_36, List.length_take, size_list]; unfold maxLen; omega) w
  rwa [ext_36] at this
end Go.Proofs.Ythhggiifbldaeaa

/- Records that lie in memory, and sectors that are written and read. -/
namespace Go.Proofs.Ythhggiifbldaeaa
open Go.RowKit Plan

theorem recV_mk (k b v m : Int) (p : ByteArray) : recV (mk k b v m p) = #[.int .i64 k, .int .i64 b, .int .i64 v, .int .i64 m, .string p] := by
  simp only [recV, mk]
/-- the cells of a record that lies in memory -/
theorem row5 {w : World} {g : Nat} {a b c d e : Value} {t : TypeId} {fr : Nat × Nat} (h : w.heap[g]? = some (.cells #[a, b, c, d, e] t fr)) :
    g < w.heap.size ∧ w.cell? ⟨g, 0, none⟩ = some a ∧ w.cell? ⟨g, 1, none⟩ = some b ∧ w.cell? ⟨g, 2, none⟩ = some c ∧ w.cell? ⟨g, 3, none⟩ = some d ∧ w.cell? ⟨g, 4, none⟩ = some e :=
  ⟨(Array.getElem?_eq_some_iff.1 h).1, cell_of_row _ _ 0 _ _ _ h, cell_of_row _ _ 1 _ _ _ h, cell_of_row _ _ 2 _ _ _ h, cell_of_row _ _ 3 _ _ _ h, cell_of_row _ _ 4 _ _ _ h⟩
/-- a record's row stays where nothing that was there has changed -/
theorem row_on {B g : Nat} {W w1 : World} {x : Option Obj} (hb : Below B W w1) (h : W.heap[g]? = x) (hg : g < B) : w1.heap[g]? = x := heap_old hb hg h
theorem row_al {g : Nat} {w : World} {o : Obj} (h : w.heap[g]? = some o) (o2 : Obj) : (w.alloc o2).heap[g]? = some o := (Below.heap_alloc _ _ _ (Array.getElem?_eq_some_iff.1 h).1).trans h
theorem setCell_row {w : World} {g : Nat} {cur : Array Value} {t : TypeId} {fr : Nat × Nat} (hg : w.heap[g]? = some (.cells cur t fr)) (i : Nat) (v : Value) :
    (w.setCell ⟨g, i, none⟩ v).heap[g]? = some (.cells (cur.setIfInBounds i v) t fr) := by
  rw [setCell_eq_setRow w g i cur t fr v hg]
  exact setRow_heap w g cur _ t fr hg
end Go.Proofs.Ythhggiifbldaeaa
