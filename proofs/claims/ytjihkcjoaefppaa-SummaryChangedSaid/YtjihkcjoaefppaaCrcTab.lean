/- The table of the checksum as it is made, bit by bit: what its cells hold behind each round. No condition. -/
import Derived.Test.YtjihkcjoaefppaaCrcShift
namespace Go.Proofs.Ytjihkcjoaefppaa
open Go.RowKit

/-- the table's cells at the start -/
def zeros : Array Value := Array.replicate 256 (.int .u32 0)
theorem zeros_run (w : World) : Sem.run Try.prog (zeroValue 58) w = .ok (.agg zeros) w := by kernel_rfl

/-- the world while the table is made: its block, and nothing old has changed -/
structure InTab (w wr : World) (cs : Array Value) : Prop where
  size : cs.size = 256
  tab : wr.heap[w.heap.size + 1]? = some (.cells cs 58 (0, 0))
  res : wr.heap[w.heap.size]? = some (.cells zeros 58 (0, 0))
  below : Below w.heap.size w wr
theorem InTab.store {w wr : World} {cs : Array Value} (h : InTab w wr cs) (j : Nat) (v : Value) : InTab w (wr.setCell ⟨w.heap.size + 1, j, none⟩ v) (cs.setIfInBounds j v) :=
  ⟨by simp [h.size], heap_setCell_same wr _ _ _ _ _ h.tab, by rw [heap_setCell_other _ _ _ _ (by show w.heap.size ≠ w.heap.size + 1; omega)]; exact h.res, h.below.setCell (by show w.heap.size ≤ w.heap.size + 1; omega) _⟩
theorem InTab.cell {w wr : World} {cs : Array Value} (h : InTab w wr cs) (j : Nat) : wr.cell? ⟨w.heap.size + 1, j, none⟩ = cs[j]? := cell_of_row _ _ _ _ _ _ h.tab
theorem InTab.frozen {w wr : World} {cs : Array Value} (h : InTab w wr cs) (j : Nat) : wr.frozen? ⟨w.heap.size + 1, j, none⟩ = false := frozen_of_row _ _ _ _ _ h.tab

/-- the rounds and their bits -/
def Lv (m bit : Nat) : Prop := (m = 0 ∧ bit = 128) ∨ (m = 1 ∧ bit = 64) ∨ (m = 2 ∧ bit = 32) ∨ (m = 3 ∧ bit = 16) ∨ (m = 4 ∧ bit = 8) ∨ (m = 5 ∧ bit = 4) ∨ (m = 6 ∧ bit = 2) ∨ (m = 7 ∧ bit = 1) ∨ (m = 8 ∧ bit = 0)
theorem Lv.le {m bit : Nat} (h : Lv m bit) : bit ≤ 128 ∧ m ≤ 8 := by unfold Lv at h; omega
theorem Lv.next {m bit : Nat} (h : Lv m bit) (hb : 0 < bit) : Lv (m + 1) (bit / 2) := by
  unfold Lv at h
  rcases h with ⟨rfl, rfl⟩ | ⟨rfl, rfl⟩ | ⟨rfl, rfl⟩ | ⟨rfl, rfl⟩ | ⟨rfl, rfl⟩ | ⟨rfl, rfl⟩ | ⟨rfl, rfl⟩ | ⟨rfl, rfl⟩ | ⟨rfl, rfl⟩ <;> first | (simp [Lv]; done) | omega
theorem Lv.room {m bit known : Nat} (h : Lv m bit) (hb : 0 < bit) (hk : known % (2 * bit) = 0) (hlt : known < 256) : known + 2 * bit ≤ 256 := by
  unfold Lv at h
  rcases h with ⟨_, rfl⟩ | ⟨_, rfl⟩ | ⟨_, rfl⟩ | ⟨_, rfl⟩ | ⟨_, rfl⟩ | ⟨_, rfl⟩ | ⟨_, rfl⟩ | ⟨_, rfl⟩ | ⟨_, rfl⟩ <;> omega
theorem Lv.sum {m bit : Nat} (h : Lv m bit) (hb : 0 < bit) : CrcMath.sh (CrcMath.shn m 1) = CrcMath.tab bit := by
  rw [← CrcMath.shn_succ]
  unfold Lv at h
  have hall : (([(0, 128), (1, 64), (2, 32), (3, 16), (4, 8), (5, 4), (6, 2), (7, 1)] : List (Nat × Nat)).all fun p => CrcMath.shn (p.1 + 1) 1 == CrcMath.tab p.2) = true := by kernel_rfl
  have hm : (m, bit) ∈ ([(0, 128), (1, 64), (2, 32), (3, 16), (4, 8), (5, 4), (6, 2), (7, 1)] : List (Nat × Nat)) := by
    rcases h with ⟨rfl, rfl⟩ | ⟨rfl, rfl⟩ | ⟨rfl, rfl⟩ | ⟨rfl, rfl⟩ | ⟨rfl, rfl⟩ | ⟨rfl, rfl⟩ | ⟨rfl, rfl⟩ | ⟨rfl, rfl⟩ | ⟨rfl, rfl⟩ <;> first | (simp; done) | omega
  have h1 := List.all_eq_true.1 hall (m, bit) hm
  simpa using h1
theorem tab_allB : ([128, 64, 32, 16, 8, 4, 2, 1].all fun b => (List.range 256).all fun k => k % (2 * b) != 0 || CrcMath.tab (k + b) == CrcMath.tab k ^^^ CrcMath.tab b) = true := by kernel_rfl
theorem tab_all (b : Nat) (hb : b ∈ [128, 64, 32, 16, 8, 4, 2, 1]) (k : Nat) (hk : k < 256) (h : k % (2 * b) = 0) : CrcMath.tab (k + b) = CrcMath.tab k ^^^ CrcMath.tab b := by
  have h1 := List.all_eq_true.1 (List.all_eq_true.1 tab_allB b hb) k (List.mem_range.2 hk)
  simpa [h] using h1
theorem Lv.tab {m bit known : Nat} (h : Lv m bit) (hb : 0 < bit) (hk : known % (2 * bit) = 0) (hlt : known < 256) : CrcMath.tab (known + bit) = CrcMath.tab known ^^^ CrcMath.tab bit := by
  unfold Lv at h
  have hm : bit ∈ [128, 64, 32, 16, 8, 4, 2, 1] := by
    rcases h with ⟨_, rfl⟩ | ⟨_, rfl⟩ | ⟨_, rfl⟩ | ⟨_, rfl⟩ | ⟨_, rfl⟩ | ⟨_, rfl⟩ | ⟨_, rfl⟩ | ⟨_, rfl⟩ | ⟨_, rfl⟩ <;> first | (simp; done) | omega
  exact tab_all bit hm known hlt hk
/-- what the table holds of the right sums: all at multiples of twice the bit, and those of the bit below known -/
def Filled (bit known : Nat) (cs : Array Value) : Prop := ∀ j, j < 256 → (j % (2 * bit) = 0 ∨ (j % bit = 0 ∧ j < known)) → cs[j]? = some (.int .u32 (CrcMath.tab j : Nat))
theorem Filled.step {m bit known : Nat} {cs : Array Value} (h : Lv m bit) (hb : 0 < bit) (hk : known % (2 * bit) = 0) (hlt : known < 256) (hs : cs.size = 256) (hf : Filled bit known cs) :
    Filled bit (known + 2 * bit) (cs.setIfInBounds (known + bit) (.int .u32 (CrcMath.tab (known + bit) : Nat))) ∧ (known + 2 * bit) % (2 * bit) = 0 := by
  refine ⟨?_, by rw [Nat.add_mod_right]; exact hk⟩
  have hr := h.room hb hk hlt
  intro j hj hor
  rw [Array.getElem?_setIfInBounds]
  by_cases he : known + bit = j
  · subst he; rw [if_pos rfl, if_pos (by omega)]
  · rw [if_neg he]
    apply hf j hj
    unfold Lv at h
    rcases h with ⟨_, rfl⟩ | ⟨_, rfl⟩ | ⟨_, rfl⟩ | ⟨_, rfl⟩ | ⟨_, rfl⟩ | ⟨_, rfl⟩ | ⟨_, rfl⟩ | ⟨_, rfl⟩ | ⟨_, rfl⟩ <;> omega
theorem Filled.next {m bit known : Nat} {cs : Array Value} (h : Lv m bit) (hb : 1 < bit) (hlt : 256 ≤ known) (hf : Filled bit known cs) : Filled (bit / 2) 0 cs := by
  intro j hj hor
  apply hf j hj
  unfold Lv at h
  rcases h with ⟨_, rfl⟩ | ⟨_, rfl⟩ | ⟨_, rfl⟩ | ⟨_, rfl⟩ | ⟨_, rfl⟩ | ⟨_, rfl⟩ | ⟨_, rfl⟩ | ⟨_, rfl⟩ | ⟨_, rfl⟩ <;> omega
/-- ahead of a round -/
def Ready (bit : Nat) (cs : Array Value) : Prop := (0 < bit ∧ Filled bit 0 cs) ∨ (bit = 0 ∧ ∀ j, j < 256 → cs[j]? = some (.int .u32 (CrcMath.tab j : Nat)))
theorem Ready.next {m bit known : Nat} {cs : Array Value} (h : Lv m bit) (hb : 0 < bit) (hlt : 256 ≤ known) (hf : Filled bit known cs) : Ready (bit / 2) cs := by
  by_cases h1 : bit = 1
  · subst h1
    exact .inr ⟨rfl, fun j hj => hf j hj (.inr ⟨by omega, by omega⟩)⟩
  · exact .inl ⟨by omega, hf.next h (by omega) hlt⟩
theorem Ready.start : Ready 128 zeros := by
  refine .inl ⟨by decide, fun j hj hor => ?_⟩
  have : j = 0 := by omega
  subst this
  have e : CrcMath.tab 0 = 0 := CrcMath.shn_zero 8
  rw [e]; simp [zeros]
theorem Ready.done {cs : Array Value} (h : Ready 0 cs) : ∀ j, j < 256 → cs[j]? = some (.int .u32 (CrcMath.tab j : Nat)) := by
  rcases h with ⟨h, _⟩ | ⟨_, h⟩
  · omega
  · exact h
theorem Ready.go {bit : Nat} {cs : Array Value} (h : Ready bit cs) (hb : 0 < bit) : Filled bit 0 cs := by
  rcases h with ⟨_, h⟩ | ⟨h, _⟩
  · exact h
  · omega
theorem InTab.start (w : World) : InTab w ((w.alloc (.cells zeros 58)).alloc (.cells zeros 58)) zeros :=
  ⟨by simp [zeros], heap_alloc2_new w _ _, heap_alloc2_old w _ _, ((Below.refl _ _).alloc (Nat.le_refl _) _).alloc (by simp) _⟩

end Go.Proofs.Ytjihkcjoaefppaa
