/- The walks of the program's checksum, continued and at once: for any bytes the result is the plain arithmetic's. The bytes are at most as many as any memory holds. -/
import Derived.Test.YtjihkcjoaefppaaCrcSums
namespace Go.Proofs.Ytjihkcjoaefppaa
open Go.RowKit

theorem wpList_store_new {P : Program} {ops : Array Oper} {rest : List Oper} {o : Oper} {a : Act} {w : World} {Q : Exit → Act → World → Prop} (hgd : o.guard = none) (ty : TypeId) (x y : Operand) (ho : o.op = .store ty x y)
    (g : Nat) (cells : Array Value) (hx : a.eval x = .pointer (some ⟨g, 0, none⟩)) (hy : a.eval y = .agg cells)
    (t : TypeId) (old : Array Value) (hg : w.heap[g]? = some (.cells old t (0, 0))) (hi : (P.info? ty).map (·.size) = some cells.size)
    (hold : old.size = cells.size) (h1 : cells.all (·.oneCell') = true)
    (h : ∀ w2 : World, w2.heap[g]? = some (.cells cells t (0, 0)) → Below g w w2 → wpList P ops Q rest (a.put o.dst undef) w2) : wpList P ops Q (o :: rest) a w :=
  wpList_store_row hgd ty x y ho g cells hx hy t old hg hi hold h1 (h _ (setRow_heap w g old cells t (0, 0) hg) (below_setRow (Below.refl _ _) (Nat.le_refl _) _))

theorem step_idx (X c : Nat) (hc : c < 256) : bits .xor .u8 ((X : Int) % 256) (c : Int) = ((X % 256 ^^^ c : Nat) : Int) := by
  have := u8_xor_nat (X % 256) c (Nat.mod_lt _ (by decide)) hc
  simpa using this
theorem step_val (X c : Nat) (hX : X < 4294967296) (hc : c < 256) : bits .xor .u32 ((X : Int) / 256) ((CrcMath.tab (X % 256 ^^^ c) : Nat) : Int) = (CrcMath.shn 8 (X ^^^ c) : Nat) := by
  have := u32_xor_nat (X / 256) (CrcMath.tab (X % 256 ^^^ c)) (by omega) (CrcMath.shn_lt 8 _ (Nat.lt_trans (CrcMath.idx_lt X c hc) (by decide)))
  rw [CrcMath.step_tab, Nat.shiftRight_eq_div_pow]
  simpa using this
theorem below_add {w w1 w2 : World} {o : Obj} (h : Below w.heap.size w w1) (k : Below w1.heap.size (w1.alloc o) w2) : Below w.heap.size w w2 :=
  (h.alloc h.size o).trans (k.mono h.size)

set_option maxRecDepth 20000 in
set_option maxHeartbeats 400000 in
theorem add_any (x : Nat) (s : ByteArray) (hx : x < 4294967296) (hs : s.size ≤ maxLen) (w : World) :
    Calls Try.prog 21 #[.int .u32 (x : Int), .string s] w fun e w' => e = .returned (.int .u32 (CrcMath.crc x s.data.toList : Nat)) ∧ Below w.heap.size w w' := by
  unfold maxLen at hs
  have hnot := Lib.hid (not_u32 x hx)
  have hz := zeros_run
  go_enter Try.func21, Try.ntmps21
  go_wp2_with (first | (go_at_call 29; refine (sums_any _).mono ?_; rintro e w1 ⟨cs, rfl, hsz0, hcs0, hb1⟩; have hsz := Lib.hid hsz0; have hcs := Lib.hid hcs0; have hone := Lib.hid (oneCells hsz0 hcs0); clear hsz0 hcs0) | (refine wpList_store_new rfl 58 _ _ rfl w1.heap.size cs rfl rfl 58 zeros (heap_alloc_new _ _) (by rw [hsz.out]; kernel_rfl) (by rw [hsz.out]; simp [zeros]) hone.out ?_; intro w2 hT0 hb2; have hT := Lib.hid hT0; clear hT0))
  go_loop [6, 13] (fun v i => ∃ k : Nat, k ≤ s.size ∧ i = .int .i64 k ∧ v = .int .u32 (CrcMath.feed (CrcMath.not32 x) (s.data.toList.take k) : Nat)) (fun _ i => s.size - (intOf i).toNat)
  case atStart => exact ⟨0, Nat.zero_le _, rfl, val_u32 hnot.out⟩
  case round =>
    obtain ⟨k, hk, rfl, rfl⟩ := hrel
    have hlt32 := CrcMath.feed_lt (s.data.toList.take k) _ (CrcMath.not32_lt x)
    by_cases hlt : k < s.size
    · have hf := Lib.hid (feed_snoc (CrcMath.not32 x) s k hlt)
      generalize CrcMath.feed (CrcMath.not32 x) (s.data.toList.take k) = X at hf hlt32 ⊢
      have hc : s[k].toNat < 256 := s[k].toNat_lt
      have hv := Lib.hid (step_val X s[k].toNat hlt32 hc)
      have hJ := CrcMath.idx_lt X s[k].toNat hc
      have hE := step_idx X s[k].toNat hc
      generalize X % 256 ^^^ s[k].toNat = J at hv hJ hE ⊢
      have hcell : w2.cell? ⟨w1.heap.size, J, none⟩ = some (.int .u32 (CrcMath.tab J : Nat)) := by rw [cell_of_row _ _ _ _ _ _ hT.out]; exact hcs.out J hJ
      go_wp2
      go_round
      case rel => exact ⟨k + 1, by omega, by go_num, val_u32 (by rw [hf.out]; exact hv.out)⟩
      case measure => simp [intOf]; omega
    · have hn2 := Lib.hid (not_u32 _ hlt32)
      clear hlt32
      go_wp2
      go_ret
      exact ⟨ret_u32 (hn2.out.trans (by rw [List.take_of_length_le (by simp; omega)]; rfl)), below_add hb1 hb2⟩

end Go.Proofs.Ytjihkcjoaefppaa
