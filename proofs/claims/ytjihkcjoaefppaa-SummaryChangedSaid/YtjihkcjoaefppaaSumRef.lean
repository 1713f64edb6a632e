/- The walk of the document's own summary, for any list of strings. -/
import Derived.Test.YtjihkcjoaefppaaSumMath
import Derived.Test.YtjihkcjoaefppaaSumIs
namespace Go.Proofs.Ytjihkcjoaefppaa
open Go.RowKit Plan

abbrev zeroRow : Obj := .cells #[.int .i64 0, .int .i64 0, .int .i64 0, .int .i64 0, .string ⟨#[]⟩] 24
theorem refMake_limit (a : Option Addr) (len cap : Nat) (w : World) (h : len = 0 ∨ 64 < len) :
    Calls Try.prog 8 #[.slice a len cap] w fun e w' => e = .returned (.tuple #[.agg #[.int .i64 0, .int .i64 0, .int .i64 0, .int .i64 0, .string ⟨#[]⟩], .int .i64 19]) ∧ Below w.heap.size w w' := by
  rcases h with rfl | h
  · go_enter Try.func8, Try.ntmps8
    go_wp2
    exact bodyPost_ret (Plan.results_cell_tmp (p := 2) (q := 3) rfl _ _ _ _ _ _ _ rfl (heap_alloc_new _ _) Try.underlying24 rfl rec_info) rfl ⟨rfl, (Below.refl _ _).alloc (Nat.le_refl _) _⟩
  · have h1 : ((len : Int) == 0) = false := by simp; omega
    have h2 : (64 : Int) < (len : Int) := by omega
    clear h
    go_enter Try.func8, Try.ntmps8
    go_wp2
    exact bodyPost_ret (Plan.results_cell_tmp (p := 2) (q := 3) rfl _ _ _ _ _ _ _ rfl (heap_alloc_new _ _) Try.underlying24 rfl rec_info) rfl ⟨rfl, (Below.refl _ _).alloc (Nat.le_refl _) _⟩
theorem all_next (l : List UInt8) (s : ByteArray) : (⟨l.toArray⟩ : ByteArray) ++ s.extract 0 36 = ⟨(l ++ s.data.toList.take 36).toArray⟩ := by
  apply ByteArray.ext
  apply Array.ext'
  rw [ByteArray.data_append, Array.toList_append, ext_36]
theorem append_lists (a b : List UInt8) : (⟨a.toArray⟩ : ByteArray) ++ ⟨b.toArray⟩ = ⟨(a ++ b).toArray⟩ := by
  apply ByteArray.ext
  apply Array.ext'
  rw [ByteArray.data_append, Array.toList_append]
set_option maxHeartbeats 1000000 in
set_option maxRecDepth 20000 in
theorem refMake_some (a : Option Addr) (len cap : Nat) (zs : List ByteArray) (w : World) (hs : IsStrs w a len cap zs) (h0 : 0 < len) (h64 : len ≤ 64) :
    Calls Try.prog 8 #[.slice a len cap] w fun e w' => e = .returned (.tuple #[.agg (recV (SumMath.makeR (bytesOf zs))), .int .i64 (SumMath.makeE (bytesOf zs))]) ∧ Below w.heap.size w w' := by
  obtain ⟨x, rfl, hx⟩ := hs.some h0
  have hzl := hs.length
  have hL : (bytesOf zs).length = len := by simp [bytesOf, hzl]
  have h1 : ((len : Int) == 0) = false := by simp; omega
  have h2 : ¬ (64 : Int) < (len : Int) := by omega
  have hP : ∀ L, L = bytesOf zs → L = bytesOf zs := fun _ h => h
  clear hP
  generalize hLL : bytesOf zs = L at hL
  have HX := Lib.hid hx
  have HLL := Lib.hid hLL
  have HLn := Lib.hid hL
  clear hs hx hLL hL
  go_enter Try.func8, Try.ntmps8
  go_wp2_with fail
  go_loopw [4, 5, 6, 7] (fun l g al c wr => ∃ k : Nat, c = .int .i64 k ∧ k ≤ len ∧ l = .int .i64 (SumMath.leastL (L.take k)) ∧ g = .int .i64 (SumMath.greatL (L.take k)) ∧ al = .string ⟨(SumMath.allL (L.take k)).toArray⟩ ∧ SumMath.errL (L.take k) = 0 ∧ wr.heap[w.heap.size]? = some zeroRow ∧ Below w.heap.size w wr) (fun _ _ _ c _ => len - (intOf c).toNat)
  case atStart => exact ⟨0, rfl, by omega, rfl, rfl, rfl, rfl, heap_alloc_new _ _, (Below.refl _ _).alloc (Nat.le_refl _) _⟩
  case round =>
    obtain ⟨k, rfl, hk, rfl, rfl, rfl, herr, hbox, hb⟩ := hrel
    by_cases hlt : k < len
    · obtain ⟨s, hzs⟩ : ∃ s, zs[k]? = some s := ⟨zs[k]'(by omega), List.getElem?_eq_getElem _⟩
      have hc := HX.out k s hzs
      have hcell : wr.cell? (x.add k) = some (.string s) := by rw [hb.cell (block_lt_of_cell hc.1), hc.1]
      have hnext : L.take (k + 1) = L.take k ++ [s.data.toList] := by
        rw [List.take_add_one, ← HLL.out]
        simp [bytesOf, hzs]
      have hdec := refDecode_any s
      have hkI : (k : Int) < (len : Int) := by omega
      have hsec : SumMath.secE s.data.toList = if RecMath.decE s.data.toList = 0 then (if (RecMath.dec s.data.toList).kind = 1 ∨ (RecMath.dec s.data.toList).kind = 2 then 0 else 3) else RecMath.decE s.data.toList := rfl
      have hl40 : RecMath.decE s.data.toList = 0 → s.size = 40 := fun h => by rw [← size_list]; exact SumMath.sec_len h
      have hle := SumMath.leastL_snoc (L.take k) s.data.toList
      have hgr := SumMath.greatL_snoc (L.take k) s.data.toList
      have hal := SumMath.allL_snoc (L.take k) s.data.toList
      have her := SumMath.errL_snoc (L.take k) s.data.toList herr
      have hall := SumMath.allL_length (L.take k)
      have hcat := all_next (SumMath.allL (L.take k)) s
      rw [← hal, ← hnext] at hcat
      rw [← hnext] at hle hgr her
      have hbnd : ((⟨(SumMath.allL (L.take k)).toArray⟩ : ByteArray).size : Int) ≤ 2304 := by
        have hLn := HLn.out
        rw [size_bytes]; rw [List.length_take] at hall; omega
      have hmk : SumMath.errL (L.take (k + 1)) ≠ 0 → SumMath.makeE L = SumMath.errL (L.take (k + 1)) ∧ SumMath.makeR L = RecMath.Rec.zero := fun h => SumMath.make_err (by rw [HLn.out]; exact h0) (by rw [HLn.out]; exact h64) h
      generalize SumMath.leastL (L.take k) = LE at hle
      generalize SumMath.greatL (L.take k) = GR at hgr
      generalize (⟨(SumMath.allL (L.take k)).toArray⟩ : ByteArray) = AL at hcat hbnd
      generalize RecMath.decE s.data.toList = E at hdec hsec hl40
      generalize RecMath.dec s.data.toList = r at hdec hsec hle hgr
      simp only [recV] at hdec
      generalize r.kind = K at hdec hsec
      generalize r.block = b at hdec
      generalize r.version = V at hdec hle hgr
      generalize r.move = m at hdec
      generalize (⟨r.payload.toArray⟩ : ByteArray) = p at hdec
      have HD := Lib.hid hdec
      have HC := Lib.hid hc
      clear hdec hc hal hall hzs
      by_cases hE : E = 0
      · subst hE
        have h40 := hl40 rfl
        rw [if_pos rfl] at hsec
        by_cases hK : K = 1 ∨ K = 2
        · rw [if_pos hK] at hsec
          rw [hsec] at her
          have hKr : ((K != 1) = false) ∨ (((K != 1) = true) ∧ ((K != 2) = false)) := by
            rcases hK with rfl | rfl
            · exact .inl rfl
            · exact .inr ⟨rfl, rfl⟩
          have hb36 : (36 : Int) ≤ (s.size : Int) := by omega
          have hcs : ∀ w9, Below w.heap.size w w9 → w9.cell? (x.add k) = some (.string s) := fun w9 h9 => by rw [h9.cell (block_lt_of_cell HC.out.1), HC.out.1]
          have HCS := Lib.hid hcs
          clear hmk hsec hK hl40 hcs
          rcases hKr with hK1 | ⟨hK1, hK2⟩
          all_goals
            go_wp2_with (go_at_call 23; ((with_reducible refine (HD.out _).mono ?_); rintro e w1 ⟨rfl, hb1⟩; have hr0 := row_on hb1 hbox (Array.getElem?_eq_some_iff.1 hbox).1; have hr1 := row_al hr0 (.cells #[.int .i64 K, .int .i64 b, .int .i64 V, .int .i64 m, .string p] 24); have hq := row5 (heap_alloc_new w1 (.cells #[.int .i64 K, .int .i64 b, .int .i64 V, .int .i64 m, .string p] 24)); obtain ⟨hq5, q0, q1, q2, q3, q4⟩ := hq))
            have zb := hb.size
            have z1 := hb1.size
            have hB : Below w.heap.size w (w1.alloc (.cells #[.int .i64 K, .int .i64 b, .int .i64 V, .int .i64 m, .string p] 24)) := (hb.trans (hb1.mono zb)).alloc (by omega) _
            have hcW := HCS.out _ hB
            clear hr0 hq5 hcell
            generalize w1.alloc (.cells #[.int .i64 K, .int .i64 b, .int .i64 V, .int .i64 m, .string p] 24) = W at hB hcW hr1 q0 q1 q2 q3 q4 ⊢
            refine Plan.start (fun w' => w' = W.drew) [(0, true), (1, true), (2, true), (3, true), (4, true), (5, true), (6, true), (7, true), (8, true), (9, true), (10, true), (11, true), (12, true), (13, true), (14, true), (15, true), (16, true), (17, true)] (by kernel_rfl) (by kernel_rfl) (by kernel_rfl) (by kernel_rfl) rfl ?_
            simp only [List.map_cons, List.map_nil, List.getElem?_toArray, List.getElem?_cons_zero, List.getElem?_cons_succ]
            repeat (first | (refine Plan.take ?_ (by rfl) ?_ ?_; rotate_left; (· rintro w9 rfl; go_simp; (try rw [if_neg (by omega)]); all_goals (with_reducible rfl)); simp only [Act.put, List.setIfInBounds_toArray, List.set_cons_zero, List.set_cons_succ]) | (refine Plan.pass (by rfl) ?_; simp only [Act.put, List.setIfInBounds_toArray, List.set_cons_zero, List.set_cons_succ]))
            refine Plan.ends ?_
            go_wp2_with fail
            go_roundw
            case rel =>
              refine ⟨k + 1, by go_num, by omega, ?_, ?_, ?_, her, hr1, hB.drew⟩
              · rw [hle]
              · rw [hgr]
              · rw [hnext]
            case measure => simp [intOf]; omega
        · rw [if_neg hK] at hsec
          rw [hsec] at her
          rw [her] at hmk
          have hM := hmk (by decide)
          have hK1 : (K != 1) = true := by simp; omega
          have hK2 : (K != 2) = true := by simp; omega
          clear hmk hcat hle hgr hl40 hsec her hK
          go_wp2_with (first
            | (go_at_call 23; ((with_reducible refine (HD.out _).mono ?_); rintro e w1 ⟨rfl, hb1⟩; have hr0 := row_on hb1 hbox (Array.getElem?_eq_some_iff.1 hbox).1; have hr1 := row_al hr0 (.cells #[.int .i64 K, .int .i64 b, .int .i64 V, .int .i64 m, .string p] 24); have hq := row5 (heap_alloc_new w1 (.cells #[.int .i64 K, .int .i64 b, .int .i64 V, .int .i64 m, .string p] 24)); obtain ⟨hq5, q0, q1, q2, q3, q4⟩ := hq))
            | ((with_reducible refine Plan.store_lit 24 (.tmp 2) _ w.heap.size ?_ hr1 ?_ ?_ ?_ ?_ ?_ ?_); rotate_left; (· rfl); (· rfl); (· exact rec_info); (· rfl); (· simp [Value.oneCell']); simp only [Act.put]))
          have zb := hb.size
          have z1 := hb1.size
          refine bodyPost_ret (Plan.results_cell_tmp (p := 2) (q := 3) rfl _ _ _ _ _ _ _ rfl (setRow_heap _ _ _ _ _ _ hr1) Try.underlying24 rfl rec_info) rfl ⟨?_, below_setRow ((hb.trans (hb1.mono zb)).alloc (by omega) _) (Nat.le_refl _) _⟩
          rw [hM.1, hM.2, zero_rec]; rfl
      · have hE1 : (E != 0) = true := by simp [hE]
        rw [if_neg hE] at hsec
        rw [hsec] at her
        rw [her] at hmk
        have hM := hmk hE
        clear hmk hcat hle hgr hl40 hsec her
        go_wp2_with (first
          | (go_at_call 23; ((with_reducible refine (HD.out _).mono ?_); rintro e w1 ⟨rfl, hb1⟩; have hr0 := row_on hb1 hbox (Array.getElem?_eq_some_iff.1 hbox).1; have hr1 := row_al hr0 (.cells #[.int .i64 K, .int .i64 b, .int .i64 V, .int .i64 m, .string p] 24); have hq := row5 (heap_alloc_new w1 (.cells #[.int .i64 K, .int .i64 b, .int .i64 V, .int .i64 m, .string p] 24)); obtain ⟨hq5, q0, q1, q2, q3, q4⟩ := hq))
          | ((with_reducible refine Plan.store_lit 24 (.tmp 2) _ w.heap.size ?_ hr1 ?_ ?_ ?_ ?_ ?_ ?_); rotate_left; (· rfl); (· rfl); (· exact rec_info); (· rfl); (· simp [Value.oneCell']); simp only [Act.put]))
        have zb := hb.size
        have z1 := hb1.size
        refine bodyPost_ret (Plan.results_cell_tmp (p := 2) (q := 3) rfl _ _ _ _ _ _ _ rfl (setRow_heap _ _ _ _ _ _ hr1) Try.underlying24 rfl rec_info) rfl ⟨?_, below_setRow ((hb.trans (hb1.mono zb)).alloc (by omega) _) (Nat.le_refl _) _⟩
        rw [hM.1, hM.2, zero_rec]; rfl
    · obtain rfl : k = len := by omega
      have hfull : L.take k = L := List.take_of_length_le (by rw [HLn.out]; exact Nat.le_refl _)
      rw [hfull] at herr ⊢
      have hM := SumMath.make_ok (by rw [HLn.out]; exact h0) (by rw [HLn.out]; exact h64) herr
      have hall := SumMath.allL_length L
      have hsz : (⟨(SumMath.allL L).toArray⟩ : ByteArray).size ≤ maxLen := by
        have := HLn.out
        rw [size_bytes]; unfold maxLen; omega
      have g1 := refsum_any ⟨(SumMath.allL L).toArray⟩ hsz
      rw [toList_mk] at g1
      have hC := CrcMath.crc_lt 0 (SumMath.allL L)
      have g2 := refPut_any (SumMath.leastL L) 6
      have g3 := refPut_any (CrcMath.crc 0 (SumMath.allL L) : Nat) 4
      rw [HLn.out] at hM
      have hl6 := putL_len (SumMath.leastL L) 6 (by decide)
      have hl4 := putL_len (CrcMath.crc 0 (SumMath.allL L) : Nat) 4 (by decide)
      have hpay := append_lists (CodecMath.putL (SumMath.leastL L) 6) (CodecMath.putL (CrcMath.crc 0 (SumMath.allL L) : Nat) 4)
      rw [← size_bytes] at hl6 hl4
      generalize (⟨(CodecMath.putL (SumMath.leastL L) 6).toArray⟩ : ByteArray) = PA at g2 hl6 hpay
      generalize (⟨(CodecMath.putL (CrcMath.crc 0 (SumMath.allL L) : Nat) 4).toArray⟩ : ByteArray) = PB at g3 hl4 hpay
      generalize CodecMath.putE (SumMath.leastL L) 6 = E6 at g2
      generalize CodecMath.putE (CrcMath.crc 0 (SumMath.allL L) : Nat) 4 = E4 at g3
      generalize CrcMath.crc 0 (SumMath.allL L) = C at g1 g3 hC
      have bA : (PA.size : Int) ≤ 7 := by omega
      have bB : (PB.size : Int) ≤ 7 := by omega
      have HM := Lib.hid hM
      have HP := Lib.hid hpay
      have G1 := Lib.hid g1
      have G2 := Lib.hid g2
      have G3 := Lib.hid g3
      clear hM hpay g1 g2 g3 hall hsz hfull hl6 hl4 herr
      go_wp2_with (first
        | (go_at_call 24; ((with_reducible refine (G2.out _).mono ?_); rintro e w1 ⟨rfl, hb1⟩; have r1 := row_on hb1 hbox (Array.getElem?_eq_some_iff.1 hbox).1))
        | (go_at_call 25; ((with_reducible refine (G1.out _).mono ?_); rintro e w2 ⟨rfl, rfl⟩))
        | (go_at_call 24; ((with_reducible refine (G3.out _).mono ?_); rintro e w3 ⟨rfl, hb3⟩; have r3 := row_on hb3 r1 (Array.getElem?_eq_some_iff.1 r1).1))
        | ((with_reducible refine Plan.store_lit 24 (.tmp 2) _ w.heap.size ?_ r3 ?_ ?_ ?_ ?_ ?_ ?_); rotate_left; (· rfl); (· rfl); (· exact rec_info); (· rfl); (· simp [Value.oneCell']); simp only [Act.put]))
      have zb := hb.size
      have z1 := hb1.size
      refine bodyPost_ret (Plan.results_cell_tmp (p := 2) (q := 3) rfl _ _ _ _ _ _ _ rfl (setRow_heap _ _ _ _ _ _ r3) Try.underlying24 rfl rec_info) rfl ⟨?_, below_setRow ((hb.trans (hb1.mono zb)).trans (hb3.mono (by omega))) (Nat.le_refl _) _⟩
      rw [HM.out.1, HM.out.2, recV, HP.out]
      rfl
theorem refMake_any (a : Option Addr) (len cap : Nat) (zs : List ByteArray) (w : World) (hs : IsStrs w a len cap zs) :
    Calls Try.prog 8 #[.slice a len cap] w fun e w' => e = .returned (.tuple #[.agg (recV (SumMath.makeR (bytesOf zs))), .int .i64 (SumMath.makeE (bytesOf zs))]) ∧ Below w.heap.size w w' := by
  by_cases h : len = 0 ∨ 64 < len
  · have hL : (bytesOf zs).length = len := by simp [bytesOf, hs.length]
    have hm : SumMath.makeE (bytesOf zs) = 19 := if_pos (by rw [hL]; exact h)
    have hr : SumMath.makeR (bytesOf zs) = RecMath.Rec.zero := by unfold SumMath.makeR; rw [hm]; rfl
    rw [hm, hr, zero_rec]
    exact refMake_limit a len cap w h
  · exact refMake_some a len cap zs w hs (by omega) (by omega)
end Go.Proofs.Ytjihkcjoaefppaa
