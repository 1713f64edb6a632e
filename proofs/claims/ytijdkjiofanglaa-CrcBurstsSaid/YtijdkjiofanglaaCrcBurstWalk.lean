/- The walk of the statement that changes within 32 consecutive bits are noticed, for any bytes, any place and any change. -/
import Derived.Test.YtijdkjiofanglaaCrcPartsWalk
import Derived.Test.YtijdkjiofanglaaCrcBurstMath
import Derived.Laws.IdiomStrings
namespace Go.Proofs.Ytijdkjiofanglaa
open Go.RowKit

/-- a number below n -/
def Small (n : Nat) (w : World) (e : Ending) (w' : World) : Prop := ∃ m : Nat, m < n ∧ e = .returned (.int .i64 m) ∧ w = w'
theorem mod_val (x : Int) (n : Nat) (hn : 0 < n) (hn2 : n ≤ 1000000) : ∃ m : Nat, m < n ∧ (wrap64 (x.tmod n + n)).tmod n = (m : Int) := by
  have h1 : -(n : Int) < x.tmod n ∧ x.tmod n < n := ⟨by have := Int.lt_tmod_of_pos x (b := (n : Int)) (by omega); omega, Int.tmod_lt_of_pos x (by omega)⟩
  have w2 : wrap64 (x.tmod n + n) = x.tmod n + n := by unfold wrap64; omega
  rw [w2]
  have h2 : 0 ≤ (x.tmod n + n).tmod n := Int.tmod_nonneg _ (by omega)
  have h3 := Int.tmod_lt_of_pos (x.tmod n + n) (b := (n : Int)) (by omega)
  exact ⟨((x.tmod n + n).tmod n).toNat, by omega, by omega⟩

set_option maxHeartbeats 400000 in
theorem mod_any (x : Int) (n : Nat) (hn : 0 < n) (hn2 : n ≤ 1000000) (w : World) :
    Calls Try.prog 11 #[.int .i64 x, .int .i64 (n : Int)] w (Small n w) := by
  have hv := Lib.hid (mod_val x n hn hn2)
  go_enter Try.func11, Try.ntmps11
  go_wp2
  go_ret
  obtain ⟨m, hm, he⟩ := hv.out
  exact ⟨m, hm, by rw [he]; rfl, rfl⟩

/-- the bytes' block: its first cells are the bytes l, and none of it may not be written -/
def InRow (w wr : World) (g : Nat) (l : List UInt8) : Prop :=
  ∃ C : Array Value, wr.heap[g]? = some (.cells C 5 (C.size, C.size + 1)) ∧ l.length ≤ C.size ∧ (∀ (j : Nat) (h : j < l.length), C[j]? = some (.int .u8 (l[j].toNat : Int))) ∧ Below w.heap.size w wr ∧ w.heap.size ≤ g
theorem InRow.cell {w wr : World} {g : Nat} {l : List UInt8} (h : InRow w wr g l) (j : Nat) (hj : j < l.length) : wr.cell? ⟨g, j, none⟩ = some (.int .u8 (l[j].toNat : Int)) := by
  obtain ⟨C, hC, _, hc, _⟩ := h
  rw [cell_of_row _ _ _ _ _ _ hC]; exact hc j hj
theorem InRow.free {w wr : World} {g : Nat} {l : List UInt8} (h : InRow w wr g l) (j : Nat) (hj : j < l.length) : wr.frozen? ⟨g, j, none⟩ = false := by
  obtain ⟨C, hC, hl, _⟩ := h
  simp [World.frozen?, hC]; omega
theorem InRow.store {w wr : World} {g : Nat} {l : List UInt8} (h : InRow w wr g l) (j : Nat) (b : UInt8) : InRow w (wr.setCell ⟨g, j, none⟩ (.int .u8 (b.toNat : Int))) g (l.set j b) := by
  obtain ⟨C, hC, hl, hc, hb, hg⟩ := h
  refine ⟨C.setIfInBounds j (.int .u8 (b.toNat : Int)), ?_, by simpa using hl, ?_, hb.setCell hg _, hg⟩
  · rw [setCell_eq_setRow wr g j C 5 _ _ hC, Array.size_setIfInBounds]
    exact setRow_heap wr g C _ 5 _ hC
  · intro i hi
    have hi' : i < l.length := by simpa using hi
    rw [Array.getElem?_setIfInBounds, List.getElem_set]
    by_cases h : j = i
    · rw [if_pos h, if_pos h, if_pos (by omega)]
    · rw [if_neg h, if_neg h]; exact hc i hi'
theorem InRow.start {w w1 : World} (s : ByteArray) (hb : Below w.heap.size w w1) (cap : Nat) :
    InRow w (w1.drew.alloc (.cells (bytesRow s cap) 5 ((bytesRow s cap).size, (bytesRow s cap).size + 1))) w1.heap.size s.data.toList := by
  refine ⟨bytesRow s cap, heap_alloc_new w1.drew _, by simp [bytesRow], ?_, hb.drew.alloc hb.size _, hb.size⟩
  intro j hj
  have hj' : j < s.data.size := by simpa using hj
  have hj2 : j < s.size := hj'
  simp [bytesRow, Array.getElem?_append, hj2]

theorem pow8 (k : Nat) : 2 ^ (k % 8) < 256 := by
  have : 2 ^ (k % 8) < 2 ^ 8 := Nat.pow_lt_pow_right (by decide) (Nat.mod_lt _ (by decide))
  simpa using this
theorem bit_byte (k : Nat) : (UInt8.ofNat (2 ^ (k % 8))).toNat = 2 ^ (k % 8) := by
  rw [UInt8.toNat_ofNat']; exact Nat.mod_eq_of_lt (pow8 k)
theorem bit_val (c : UInt8) (k : Nat) : bits .xor .u8 (c.toNat : Int) ((2 : Int) ^ (k % 8) % 256) = ((c ^^^ UInt8.ofNat (2 ^ (k % 8))).toNat : Int) := by
  have h := u8_xor_nat c.toNat (2 ^ (k % 8)) c.toNat_lt (pow8 k)
  have e : ((2 : Int) ^ (k % 8) % 256) = ((2 ^ (k % 8) : Nat) : Int) := by
    have := pow8 k
    have e2 : ((2 ^ (k % 8) : Nat) : Int) = (2 : Int) ^ (k % 8) := by simp
    rw [← e2]
    generalize 2 ^ (k % 8) = X at this
    omega
  rw [e, h, UInt8.toNat_xor, bit_byte]
theorem InRow.back {w wr w1 : World} {g : Nat} {l : List UInt8} {n : Nat} (h : InRow w wr g l) (hl : l.length = n) (hb : Below wr.heap.size wr w1) (cap : Nat) :
    (convert 29 9 (.slice (some ⟨g, 0, none⟩) n cap)).run Try.prog w1 = .ok (.string ⟨l.toArray⟩) w1 := by
  subst hl
  refine run_convert_bytes_back w1 29 9 5 ⟨g, 0, none⟩ cap l Try.underlying29 Try.underlying5 Try.underlying9 ?_
  intro j hj
  have hadd : (⟨g, 0, none⟩ : Addr).add j = ⟨g, j, none⟩ := by unfold Addr.add; split <;> simp_all
  have hc := h.cell j hj
  rw [hadd, hb.cell (block_lt_of_cell hc), hc]

set_option maxRecDepth 20000 in
set_option maxHeartbeats 1000000 in
theorem burst_any (s : ByteArray) (from_ : Int) (ch : Nat) (hs : s.size ≤ 140737488351232) (hch : ch < 4294967296) (w : World) :
    Calls Try.prog 5 #[.string s, .int .i64 from_, .int .u32 (ch : Int)] w fun e w' => e = .returned (.bool true) ∧ Below w.heap.size w w' := by
  by_cases h1 : s.size < 5
  · go_enter Try.func5, Try.ntmps5
    go_wp2_with (go_at_call 6; refine (awake_any _).mono ?_; rintro e w1 ⟨rfl, hb1⟩)
    go_ret
    exact ⟨rfl, hb1⟩
  · by_cases h2 : 2000 < s.size
    · go_enter Try.func5, Try.ntmps5
      go_wp2_with (go_at_call 6; refine (awake_any _).mono ?_; rintro e w1 ⟨rfl, hb1⟩)
      go_ret
      exact ⟨rfl, hb1⟩
    · by_cases h3 : ch = 0
      · subst h3
        go_enter Try.func5, Try.ntmps5
        go_wp2_with (go_at_call 6; refine (awake_any _).mono ?_; rintro e w1 ⟨rfl, hb1⟩)
        go_ret
        exact ⟨rfl, hb1⟩
      · have h30 : (((ch : Nat) : Int) == 0) = false := by simp; omega
        have hM : ∀ w, Calls Try.prog 11 #[.int .i64 from_, .int .i64 (8 * ((s.size : Int) - 4))] w (Small (8 * (s.size - 4)) w) := by
          intro w
          have h := mod_any from_ (8 * (s.size - 4)) (by omega) (by omega) w
          have e : ((8 * (s.size - 4) : Nat) : Int) = 8 * ((s.size : Int) - 4) := by omega
          rwa [e] at h
        have HM := Lib.hid hM
        clear hM
        have hconv := fun w => run_bytes_of_string (P := Try.prog) w 9 29 5 s Try.underlying9 Try.underlying29 Try.underlying5
        go_enter Try.func5, Try.ntmps5
        go_wp2_with (go_at_call 11; refine (HM.out _).mono ?_; rintro e w' ⟨a, ha, rfl, rfl⟩)
        clear hconv
        go_loopw [9] (fun i wr => ∃ k : Nat, k ≤ 32 ∧ i = .int .i64 k ∧ ∃ l : List UInt8, CrcMath.Done s.data.toList l a ch k ∧ InRow w wr w.heap.size l) (fun i _ => 32 - (intOf i).toNat)
        case atStart => exact ⟨0, by omega, rfl, s.data.toList, CrcMath.Done.start _ _ _, InRow.start s (Below.refl _ _) _⟩
        case round =>
          obtain ⟨k, hk, rfl, l, hd, hin⟩ := hrel
          by_cases hlt : k < 32
          · have hq : ch / 2 ^ k < 4294967296 := Nat.lt_of_le_of_lt (Nat.div_le_self _ _) hch
            have hand := and1 _ hq
            rw [show (((ch / 2 ^ k : Nat) : Nat) : Int) = (ch : Int) / 2 ^ k by simp] at hand
            have hll : l.length = s.size := hd.1
            rcases Nat.mod_two_eq_zero_or_one (ch / 2 ^ k) with hbit | hbit
            · have ht : (bits .and .u32 ((ch : Int) / 2 ^ k) 1 == 1) = false := by rw [hand, hbit]; rfl
              have hn := Lib.hid (hd.nil hbit)
              clear hand hbit hll
              go_wp2
              go_roundw
              case rel => exact ⟨k + 1, by omega, by go_num, l, hn.out, hin⟩
              case measure => simp [intOf]; omega
            · have ht : (bits .and .u32 ((ch : Int) / 2 ^ k) 1 == 1) = true := by rw [hand, hbit]; rfl
              have hj : (a + k) / 8 < l.length := by omega
              have hn := Lib.hid (hd.one hbit hj (UInt8.ofNat (2 ^ ((a + k) % 8))) (bit_byte (a + k)))
              have hc := hin.cell _ hj
              have hf := hin.free _ hj
              clear hand hll hbit
              have hj2 : ((a : Int) + (k : Int)) / 8 < (s.size : Int) := by omega
              go_wp2
              go_roundw
              case rel => exact ⟨k + 1, by omega, by go_num, _, hn.out, by rw [bit_val]; exact hin.store _ _⟩
              case measure => simp [intOf]; omega
          · obtain rfl : k = 32 := by omega
            have hll : l.length = s.size := hd.1
            have hno := hd.noticed hch h3 (by have : s.data.toList.length = s.size := rfl
                                              omega)
            have hm : s.size ≤ maxLen := Nat.le_trans hs (by decide)
            have hA := fun w => sum_any ⟨l.toArray⟩ (by show l.toArray.size ≤ maxLen; simp; omega) w
            have hB := fun w => sum_any s hm w
            simp only at hA
            generalize CrcMath.crc 0 l = A at hA hno
            generalize CrcMath.crc 0 s.data.toList = B at hB hno
            have hn1 : ((A : Int) == (B : Int)) = false := by simp; omega
            have hn2 : ((A : Int) != (B : Int)) = true := by simp; omega
            have HA := Lib.hid hA
            have HB := Lib.hid hB
            have HL := Lib.hid hll
            clear hA hB hno hll hd
            go_wp2_with (first | (go_at_call 6; refine (awake_any _).mono ?_; rintro e w1 ⟨rfl, hb1⟩; have hback := hin.back HL.out hb1) | (go_at_call 9; ((with_reducible refine (HA.out _).mono ?_); rintro e w2 ⟨rfl, hb2⟩)) | (go_at_call 9; ((with_reducible refine (HB.out _).mono ?_); rintro e w3 ⟨rfl, hb3⟩)))
            go_ret
            exact ⟨rfl, by obtain ⟨_, _, _, _, hb, _⟩ := hin; exact below_then (below_then (below_then hb hb1) hb2) hb3⟩

theorem burst_law (s : ByteArray) (n c : Int) (hs : s.size ≤ 140737488351232) (hc : (Lit.int .u32 c).wf = true) (w : World) :
    Calls Try.prog 5 #[.string s, .int .i64 n, .int .u32 c] w fun e w' => e = .returned (.bool true) ∧ Below w.heap.size w w' := by
  obtain ⟨x, rfl, hx⟩ := u32_nat hc
  exact burst_any s n x hs hx w

end Go.Proofs.Ytijdkjiofanglaa
