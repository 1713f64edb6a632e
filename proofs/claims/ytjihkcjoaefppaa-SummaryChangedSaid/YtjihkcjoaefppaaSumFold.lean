/- The walk of the program's fold with the closure of its Make. -/
import Derived.Test.YtjihkcjoaefppaaSumPut
namespace Go.Proofs.Ytjihkcjoaefppaa
open Go.RowKit Plan

/-- the closure of Make as a value -/
abbrev stepV (p q r : Nat) : Value := .func (Fn.func 20) #[] #[.pointer (some ⟨p, 0, none⟩), .pointer (some ⟨q, 0, none⟩), .pointer (some ⟨r, 0, none⟩)]
theorem crc_next (l : List (List UInt8)) (s : List UInt8) : CrcMath.crc (CrcMath.crc 0 (SumMath.allL l)) (s.take 36) = CrcMath.crc 0 (SumMath.allL (l ++ [s])) := by
  rw [SumMath.allL_snoc, CrcMath.crc_append]
theorem crc_nil : CrcMath.crc 0 (SumMath.allL []) = 0 := by
  simp [SumMath.allL, CrcMath.crc, CrcMath.feed, CrcMath.not32]
theorem boxes_nil {w : World} {p q r : Nat} (L : List (List UInt8)) (h : Boxes w p q r 1099511627776 0 0) : Boxes w p q r (SumMath.leastL (L.take 0)) (SumMath.greatL (L.take 0)) (CrcMath.crc 0 (SumMath.allL (L.take 0))) := by
  rw [List.take_zero, crc_nil]
  exact h
set_option maxHeartbeats 1000000 in
set_option maxRecDepth 20000 in
theorem fold_some (w : World) (x : Addr) (len cap : Nat) (zs : List ByteArray) (hx : ∀ (i : Nat) s, zs[i]? = some s → w.cell? (x.add i) = some (.string s) ∧ s.size ≤ maxLen) (hzl : zs.length = len) (h64 : len ≤ 64)
    (p q r : Nat) (hxp : x.block < p) (hpq : p < q) (hqr : q < r) (h : Boxes w p q r 1099511627776 0 0) :
    Calls Try.prog 19 #[.slice (some x) len cap, stepV p q r] w fun e w' =>
      e = .returned (.int .i64 (SumMath.errL (bytesOf zs))) ∧ Below p w w' ∧ (SumMath.errL (bytesOf zs) = 0 → Boxes w' p q r (SumMath.leastL (bytesOf zs)) (SumMath.greatL (bytesOf zs)) (CrcMath.crc 0 (SumMath.allL (bytesOf zs)))) := by
  have hL : (bytesOf zs).length = len := by simp [bytesOf, hzl]
  generalize hLL : bytesOf zs = L at hL
  have HX := Lib.hid hx
  have HLL := Lib.hid hLL
  have HLn := Lib.hid hL
  have hpw := lt_of_block h.p
  clear hx hLL hL
  go_enter Try.func19, Try.ntmps19
  go_wp2_with fail
  go_loopw [11] (fun c wr => ∃ k : Nat, c = .int .i64 k ∧ k ≤ len ∧ SumMath.errL (L.take k) = 0 ∧ Boxes wr p q r (SumMath.leastL (L.take k)) (SumMath.greatL (L.take k)) (CrcMath.crc 0 (SumMath.allL (L.take k))) ∧ Below p w wr) (fun c _ => len - (intOf c).toNat)
  case atStart => exact ⟨0, rfl, by omega, rfl, boxes_nil L h, Below.refl _ _⟩
  case round =>
    obtain ⟨k, rfl, hk, herr, hbx, hb⟩ := hrel
    by_cases hlt : k < len
    · obtain ⟨s, hzs⟩ : ∃ s, zs[k]? = some s := ⟨zs[k]'(by omega), List.getElem?_eq_getElem _⟩
      have hc := HX.out k s hzs
      have hcell : wr.cell? (x.add k) = some (.string s) := by rw [hb.cell (by rw [add_block]; exact hxp), hc.1]
      have hnext : L.take (k + 1) = L.take k ++ [s.data.toList] := by
        rw [List.take_add_one, ← HLL.out]
        simp [bytesOf, hzs]
      have hdec := decode_any s
      have hkI : (k : Int) < (len : Int) := by omega
      have hsec : SumMath.secE s.data.toList = if RecMath.decE s.data.toList = 0 then (if (RecMath.dec s.data.toList).kind = 1 ∨ (RecMath.dec s.data.toList).kind = 2 then 0 else 3) else RecMath.decE s.data.toList := rfl
      have hl40 : RecMath.decE s.data.toList = 0 → s.size = 40 := fun h => by rw [← size_list]; exact SumMath.sec_len h
      have hle := SumMath.leastL_snoc (L.take k) s.data.toList
      have hgr := SumMath.greatL_snoc (L.take k) s.data.toList
      have hal := crc_next (L.take k) s.data.toList
      have her := SumMath.errL_snoc (L.take k) s.data.toList herr
      rw [← hnext] at hle hgr her hal
      have hmk : SumMath.errL (L.take (k + 1)) ≠ 0 → SumMath.errL L = SumMath.errL (L.take (k + 1)) := fun h => by
        have := SumMath.errL_more (L.take (k + 1)) (L.drop (k + 1)) h
        rwa [List.take_append_drop] at this
      have hcc := CrcMath.crc_lt 0 (SumMath.allL (L.take k))
      generalize SumMath.leastL (L.take k) = LE at hle hbx
      generalize SumMath.greatL (L.take k) = GR at hgr hbx
      generalize CrcMath.crc 0 (SumMath.allL (L.take k)) = CC at hal hcc hbx
      have hst := fun V => step_any p p q r (Nat.le_refl _) hpq hqr LE GR V CC hcc s
      generalize CrcMath.crc CC (List.take 36 s.data.toList) = CD at hal hst
      generalize RecMath.decE s.data.toList = E at hdec hsec hl40
      generalize RecMath.dec s.data.toList = r at hdec hsec hle hgr
      simp only [recV] at hdec
      generalize r.kind = K at hdec hsec
      generalize r.block = b at hdec
      generalize r.version = V at hdec hle hgr
      generalize r.move = m at hdec
      generalize (⟨r.payload.toArray⟩ : ByteArray) = pp at hdec
      have HD := Lib.hid hdec
      have HC := Lib.hid hc
      have HST := Lib.hid (hst V)
      have HAL := Lib.hid hal
      have HB := Lib.hid hbx
      clear hdec hc hal hzs hst hbx
      by_cases hE : E = 0
      · subst hE
        have h40 := hl40 rfl
        rw [if_pos rfl] at hsec
        by_cases hK : K = 1 ∨ K = 2
        · rw [if_pos hK] at hsec
          rw [hsec] at her
          have hKr : ((K != 1) = false) ∨ (((K != 1) = true) ∧ ((K != 2) = false)) := by
            rcases hK with rfl | rfl
            · exact .inl rfl
            · exact .inr ⟨rfl, rfl⟩
          clear hmk hsec hK hl40
          rcases hKr with hK1 | ⟨hK1, hK2⟩
          all_goals
            go_wp2_with (first
              | (go_at_call 28; ((with_reducible refine (HD.out _).mono ?_); rintro e w1 ⟨rfl, hb1⟩; have hq := row5 (heap_alloc_new w1 (.cells #[.int .i64 K, .int .i64 b, .int .i64 V, .int .i64 m, .string pp] 24)); obtain ⟨hq5, q0, q1, q2, q3, q4⟩ := hq))
              | (go_at_call 20; ((with_reducible refine (HST.out (by omega) _ ((HB.out.on hb1).al _)).mono ?_); rintro e w2 ⟨rfl, hbx2, hb2⟩)))
            have zb := hb.size
            have z1 := hb1.size
            go_round
            case rel => exact ⟨k + 1, by go_num, by omega, her, by rw [hle, hgr, ← HAL.out]; exact hbx2, ((hb.trans (hb1.mono (by omega))).alloc (by omega) _).trans hb2⟩
            case measure => simp [intOf]; omega
        · rw [if_neg hK] at hsec
          rw [hsec] at her
          rw [her] at hmk
          have hM := hmk (by decide)
          have hK1 : (K != 1) = true := by simp; omega
          have hK2 : (K != 2) = true := by simp; omega
          clear hmk hsec hl40 hle hgr
          go_wp2_with (first
            | (go_at_call 28; ((with_reducible refine (HD.out _).mono ?_); rintro e w1 ⟨rfl, hb1⟩; have hq := row5 (heap_alloc_new w1 (.cells #[.int .i64 K, .int .i64 b, .int .i64 V, .int .i64 m, .string pp] 24)); obtain ⟨hq5, q0, q1, q2, q3, q4⟩ := hq)))
          have zb := hb.size
          have z1 := hb1.size
          go_ret
          exact ⟨by rw [hM]; rfl, (hb.trans (hb1.mono (by omega))).alloc (by omega) _, fun h => by rw [hM] at h; cases h⟩
      · have hE1 : (E != 0) = true := by simp [hE]
        rw [if_neg hE] at hsec
        rw [hsec] at her
        rw [her] at hmk
        have hM := hmk hE
        clear hmk hsec hl40 hle hgr
        go_wp2_with (first
          | (go_at_call 28; ((with_reducible refine (HD.out _).mono ?_); rintro e w1 ⟨rfl, hb1⟩; have hq := row5 (heap_alloc_new w1 (.cells #[.int .i64 K, .int .i64 b, .int .i64 V, .int .i64 m, .string pp] 24)); obtain ⟨hq5, q0, q1, q2, q3, q4⟩ := hq)))
        have zb := hb.size
        have z1 := hb1.size
        go_ret
        exact ⟨by rw [hM]; rfl, (hb.trans (hb1.mono (by omega))).alloc (by omega) _, fun h => absurd (hM.symm.trans h) hE⟩
    · obtain rfl : k = len := by omega
      have hfull : L.take k = L := List.take_of_length_le (by rw [HLn.out]; exact Nat.le_refl _)
      rw [hfull] at herr hbx
      go_wp2_with fail
      go_ret
      exact ⟨by rw [herr]; rfl, hb, fun _ => hbx⟩
end Go.Proofs.Ytjihkcjoaefppaa
