/- The walk of the program's function that makes the table: every cell is the sum of its own byte. No condition. -/
import Derived.Test.YtjihkcjoaefppaaCrcTab
import Derived.Laws.Rows
import Derived.Laws.CopyOwn
namespace Go.Proofs.Ytjihkcjoaefppaa
open Go.RowKit

theorem oneCells {cs : Array Value} (hs : cs.size = 256) (h : ∀ j, j < 256 → cs[j]? = some (.int .u32 (CrcMath.tab j : Nat))) : cs.all (·.oneCell') = true := by
  rw [Array.all_eq_true]
  intro j hj
  have h1 := h j (by omega)
  rw [Array.getElem?_eq_getElem hj] at h1
  rw [Option.some.inj h1]; rfl

set_option maxRecDepth 20000 in
set_option maxHeartbeats 400000 in
theorem sums_any (w : World) :
    Calls Try.prog 29 #[] w fun e w' => ∃ cs : Array Value, e = .returned (.agg cs) ∧ cs.size = 256 ∧ (∀ j, j < 256 → cs[j]? = some (.int .u32 (CrcMath.tab j : Nat))) ∧ Below w.heap.size w w' := by
  have hz := zeros_run
  go_enter Try.func29, Try.ntmps29
  go_wp2
  clear hz
  go_loopw [2, 3] (fun v b wr => ∃ m bit : Nat, ∃ cs : Array Value, b = .int .i64 bit ∧ v = .int .u32 (CrcMath.shn m 1 : Nat) ∧ Lv m bit ∧ Ready bit cs ∧ InTab w wr cs) (fun _ b _ => (intOf b).toNat)
  case atStart => exact ⟨0, 128, zeros, rfl, rfl, .inl ⟨rfl, rfl⟩, Ready.start, InTab.start w⟩
  case round =>
    obtain ⟨m, bit, cs, rfl, rfl, hlv, hrd, hin⟩ := hrel
    have hle := hlv.le.1
    have hs32 := CrcMath.shn_lt m 1 (by decide)
    by_cases hb : 0 < bit
    · have hsum := Lib.hid (hlv.sum hb)
      have hfl := hrd.go hb
      clear hrd
      have hS0 := Lib.hid (CrcMath.shn_succ m 1)
      generalize CrcMath.shn m 1 = S at hs32 hsum hS0 ⊢
      have hT := CrcMath.sh_lt S hs32
      go_wp2_with (go_at_call 41; refine (shift_any S hs32 _).mono ?_; rintro e w' ⟨rfl, rfl⟩)
      go_loopw [4] (fun kn wr => ∃ known : Nat, ∃ cs : Array Value, kn = .int .i64 known ∧ known ≤ 256 ∧ Hid (known % (2 * bit) = 0) ∧ Filled bit known cs ∧ InTab w wr cs) (fun kn _ => 256 - (intOf kn).toNat)
      case atStart => exact ⟨0, cs, rfl, by omega, Lib.hid (by simp), hfl, hin⟩
      case round =>
        obtain ⟨known, cs', rfl, hk256, hkm, hfl', hin'⟩ := hrel
        clear hfl hin
        by_cases hlt : known < 256
        · have hroom := hlv.room hb hkm.out hlt
          have hst := Lib.hid (hfl'.step hlv hb hkm.out hlt hin'.size)
          have hc1 : wr.cell? ⟨w.heap.size + 1, known, none⟩ = some (.int .u32 (CrcMath.tab known : Nat)) := by rw [hin'.cell]; exact hfl' known hlt (.inl hkm.out)
          have hc2 : ∃ v, wr.cell? ⟨w.heap.size + 1, known + bit, none⟩ = some v := by rw [hin'.cell]; exact ⟨cs'[known + bit]'(by have := hin'.size; omega), by simp⟩
          obtain ⟨v2, hc2⟩ := hc2
          have hf2 := hin'.frozen (known + bit)
          have hxv := Lib.hid (u32_xor_nat (CrcMath.tab known) (CrcMath.sh S) (CrcMath.shn_lt 8 known (by omega)) hT)
          have htv := Lib.hid (hlv.tab hb hkm.out hlt)
          go_wp2
          go_roundw
          case rel => exact ⟨known + 2 * bit, _, by go_num, hroom, Lib.hid hst.out.2, by rw [hxv.out, hsum.out, ← htv.out]; exact hst.out.1, hin'.store _ _⟩
          case measure => simp [intOf]; omega
        · have hnx := hfl'
          have hrd := Lib.hid (Ready.next hlv hb (by omega) hfl')
          have hlv' := Lib.hid (hlv.next hb)
          go_wp2
          go_roundw
          case rel => exact ⟨m + 1, bit / 2, cs', by go_num, val_u32 (by rw [hS0.out]), hlv'.out, hrd.out, hin'⟩
          case measure => simp [intOf]; omega
    · obtain rfl : bit = 0 := by omega
      have hd := Lib.hid hrd.done
      have hone := Lib.hid (oneCells hin.size hrd.done)
      have hg := Lib.hid hin.tab
      have hr := Lib.hid hin.res
      have hsz := Lib.hid hin.size
      clear hrd hs32 hlv
      go_wp2_with (first | (refine wpList_load_row rfl 58 _ rfl (w.heap.size + 1) rfl 58 cs (0, 0) (.array 256 41) hg.out Try.underlying58 rfl (by rw [hsz.out]; kernel_rfl) ?_) | (refine wpList_store_row rfl 58 _ _ rfl w.heap.size cs rfl rfl 58 zeros hr.out (by rw [hsz.out]; kernel_rfl) (by rw [hsz.out]; simp [zeros]) hone.out ?_))
      refine bodyPost_ret (v := .agg cs) (results_cell_row rfl _ _ w.heap.size 58 cs (0, 0) (.array 256 41) rfl (setRow_heap wr w.heap.size zeros cs 58 (0, 0) hr.out) Try.underlying58 rfl (by rw [hsz.out]; kernel_rfl)) rfl ⟨cs, rfl, hsz.out, hd.out, ?_⟩
      exact below_setRow hin.below (Nat.le_refl _) _

end Go.Proofs.Ytjihkcjoaefppaa
