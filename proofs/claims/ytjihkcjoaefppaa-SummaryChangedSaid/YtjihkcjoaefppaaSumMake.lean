/- The walk of the program's Make, for any list of strings. -/
import Derived.Test.YtjihkcjoaefppaaSumFold
namespace Go.Proofs.Ytjihkcjoaefppaa
open Go.RowKit Plan

theorem make_limit (a : Option Addr) (len cap : Nat) (w : World) (h : len = 0 ∨ 64 < len) :
    Calls Try.prog 7 #[.slice a len cap] w fun e w' => e = .returned (.tuple #[.agg #[.int .i64 0, .int .i64 0, .int .i64 0, .int .i64 0, .string ⟨#[]⟩], .int .i64 19]) ∧ Below w.heap.size w w' := by
  rcases h with rfl | h
  · go_enter Try.func7, Try.ntmps7
    go_wp2
    exact bodyPost_ret (Plan.results_cell_tmp (p := 2) (q := 3) rfl _ _ _ _ _ _ _ rfl (heap_alloc_new _ _) Try.underlying24 rfl rec_info) rfl ⟨rfl, (Below.refl _ _).alloc (Nat.le_refl _) _⟩
  · have h1 : ((len : Int) == 0) = false := by simp; omega
    have h2 : (64 : Int) < (len : Int) := by omega
    clear h
    go_enter Try.func7, Try.ntmps7
    go_wp2
    exact bodyPost_ret (Plan.results_cell_tmp (p := 2) (q := 3) rfl _ _ _ _ _ _ _ rfl (heap_alloc_new _ _) Try.underlying24 rfl rec_info) rfl ⟨rfl, (Below.refl _ _).alloc (Nat.le_refl _) _⟩
theorem boxes_new (w : World) : Boxes (((w.alloc (.cells #[.int .i64 1099511627776] 3)).alloc (.cells #[.int .i64 0] 3)).alloc (.cells #[.int .u32 0] 41)) w.heap.size (w.heap.size + 1) (w.heap.size + 1 + 1) 1099511627776 0 0 := by
  refine ⟨row_al (row_al (heap_alloc_new w _) _) _, row_al ?_ _, ?_⟩
  · have := heap_alloc_new (w.alloc (.cells #[.int .i64 1099511627776] 3)) (.cells #[.int .i64 0] 3)
    simpa using this
  · have := heap_alloc_new ((w.alloc (.cells #[.int .i64 1099511627776] 3)).alloc (.cells #[.int .i64 0] 3)) (.cells #[.int .u32 0] 41)
    simpa using this
/-- what the region that makes the summary keeps to -/
abbrev SumKeeps (w : World) (p q r : Nat) (l g : Int) (c : Nat) (w' : World) : Prop :=
  (w'.cell? ⟨p, 0, none⟩ = some (.int .i64 l) ∧ w'.cell? ⟨q, 0, none⟩ = some (.int .i64 g) ∧ w'.cell? ⟨r, 0, none⟩ = some (.int .u32 (c : Int))) ∧ Boxes w' p q r l g c ∧ Below w.heap.size w w' ∧
    ∃ cs, cs.size = 5 ∧ w'.heap[w.heap.size]? = some (.cells cs 24 (0, 0))
theorem keeps_of {w w' : World} {p q r : Nat} {l g : Int} {c : Nat} (hb : Boxes w' p q r l g c) (h : Below w.heap.size w w') {cs : Array Value} (hs : cs.size = 5) (hr : w'.heap[w.heap.size]? = some (.cells cs 24 (0, 0))) : SumKeeps w p q r l g c w' :=
  ⟨⟨cell_of_one hb.p, cell_of_one hb.q, cell_of_one hb.r⟩, hb, h, cs, hs, hr⟩
theorem keeps_on {w w1 w2 : World} {p q r : Nat} {l g : Int} {c : Nat} (h : SumKeeps w p q r l g c w1) (hb : Below w1.heap.size w1 w2) : SumKeeps w p q r l g c w2 := by
  obtain ⟨_, h2, h3, cs, h4, h5⟩ := h
  exact keeps_of (h2.on hb) (h3.trans (hb.mono h3.size)) h4 (row_on hb h5 (lt_of_block h5))
set_option maxHeartbeats 1000000 in
set_option maxRecDepth 20000 in
theorem make_some (a : Option Addr) (len cap : Nat) (zs : List ByteArray) (w : World) (hs : IsStrs w a len cap zs) (h0 : 0 < len) (h64 : len ≤ 64) :
    Calls Try.prog 7 #[.slice a len cap] w fun e w' => e = .returned (.tuple #[.agg (recV (SumMath.makeR (bytesOf zs))), .int .i64 (SumMath.makeE (bytesOf zs))]) ∧ Below w.heap.size w w' := by
  obtain ⟨x, rfl, hx⟩ := hs.some h0
  have hzl := hs.length
  have hL : (bytesOf zs).length = len := by simp [bytesOf, hzl]
  have hx0 : x.block < w.heap.size := by
    have := block_lt_of_cell (hx 0 (zs[0]'(by omega)) (List.getElem?_eq_getElem _)).1
    rwa [add_block] at this
  have h1 : ((len : Int) == 0) = false := by simp; omega
  have h2 : ¬ (64 : Int) < (len : Int) := by omega
  have hsum := sum_any ⟨#[]⟩ (by unfold maxLen; decide)
  have hnil : CrcMath.crc 0 (⟨#[]⟩ : ByteArray).data.toList = 0 := crc_nil
  rw [hnil] at hsum
  have hlift : ∀ W, Below w.heap.size w W → ∀ (i : Nat) s, zs[i]? = some s → W.cell? (x.add i) = some (.string s) ∧ s.size ≤ maxLen := fun W hW i s hi =>
    ⟨by rw [hW.cell (by rw [add_block]; exact hx0)]; exact (hx i s hi).1, (hx i s hi).2⟩
  have hfold := fun W (hW : Below w.heap.size w W) p q r (hp : w.heap.size ≤ p) hpq hqr hB => fold_some W x len cap zs (hlift W hW) hzl h64 p q r (Nat.lt_of_lt_of_le hx0 hp) hpq hqr hB
  have hMe : SumMath.errL (bytesOf zs) = 0 → _ := fun h => SumMath.make_ok (by rw [hL]; exact h0) (by rw [hL]; exact h64) h
  have hMn : SumMath.errL (bytesOf zs) ≠ 0 → SumMath.makeE (bytesOf zs) = SumMath.errL (bytesOf zs) ∧ SumMath.makeR (bytesOf zs) = RecMath.Rec.zero := fun h => by
    have := SumMath.make_err (l := bytesOf zs) (k := len) (by rw [hL]; exact h0) (by rw [hL]; exact h64)
    rw [List.take_of_length_le (by rw [hL]; exact Nat.le_refl _)] at this
    exact this h
  rw [hL] at hMe
  have hcc := CrcMath.crc_lt 0 (SumMath.allL (bytesOf zs))
  generalize SumMath.errL (bytesOf zs) = E at hfold hMe hMn
  generalize SumMath.leastL (bytesOf zs) = LE at hfold hMe
  generalize SumMath.greatL (bytesOf zs) = GR at hfold hMe
  generalize CrcMath.crc 0 (SumMath.allL (bytesOf zs)) = CC at hfold hMe hcc
  have HS := Lib.hid hsum
  have HF := Lib.hid hfold
  clear hs hx hsum hnil hlift hfold
  by_cases hE : E = 0
  · subst hE
    have hM := hMe rfl
    have g2 := sumPut_any LE 6
    have g3 := sumPut_any CC 4
    have hl6 := putL_len LE 6 (by decide)
    have hl4 := putL_len CC 4 (by decide)
    have hpay := append_lists (CodecMath.putL LE 6) (CodecMath.putL CC 4)
    rw [← size_bytes] at hl6 hl4
    generalize (⟨(CodecMath.putL LE 6).toArray⟩ : ByteArray) = PA at g2 hl6 hpay
    generalize (⟨(CodecMath.putL CC 4).toArray⟩ : ByteArray) = PB at g3 hl4 hpay
    have bA : (PA.size : Int) ≤ 7 := by omega
    have bB : (PB.size : Int) ≤ 7 := by omega
    have HM := Lib.hid hM
    have HP := Lib.hid hpay
    have G2 := Lib.hid g2
    have G3 := Lib.hid g3
    clear hM hpay g2 g3 hl6 hl4 hMe hMn
    go_enter Try.func7, Try.ntmps7
    go_wp2_with (first
      | (go_at_call 18; ((with_reducible refine (HS.out _).mono ?_); rintro e w1 ⟨rfl, hb1⟩; have hg1 := row_on hb1 (heap_alloc_new w _) (by simp); have hB1 := ((Below.refl _ w).alloc (Nat.le_refl _) zeroRow).trans (hb1.mono (by simp)); have y1 := hB1.size; have hB3 := ((hB1.alloc y1 (.cells #[.int .i64 1099511627776] 3)).alloc (by simp; omega) (.cells #[.int .i64 0] 3)).alloc (by simp; omega) (.cells #[.int .u32 0] 41)))
      | (go_at_call 19; ((with_reducible refine (HF.out _ hB3 w1.heap.size (w1.heap.size + 1) (w1.heap.size + 1 + 1) y1 (Nat.lt_succ_self _) (Nat.lt_succ_self _) (boxes_new w1)).mono ?_); rintro e w4 ⟨rfl, hb4, hbx⟩)))
    have hg4 := row_on hb4 (row_al (row_al (row_al hg1 (.cells #[.int .i64 1099511627776] 3)) (.cells #[.int .i64 0] 3)) (.cells #[.int .u32 0] 41)) (show w.heap.size < w1.heap.size from lt_of_block hg1)
    have hB4 := hB3.trans (hb4.mono y1)
    have hbx4 := hbx (by first | trivial | rfl)
    have hgp : w.heap.size < w1.heap.size := lt_of_block hg1
    have hK0 := keeps_of hbx4 hB4 (by rfl) hg4
    clear hbx hbx4 hB4 hg4 hb4 hB3 hb1 hg1 hB1
    generalize w1.heap.size = p at hgp hK0 y1 ⊢
    have hS0 : SumKeeps w p (p + 1) (p + 1 + 1) LE GR CC w4.drew := keeps_on hK0 (Below.refl _ _).drew
    have hwC : IntKind.i64.wrap (CC : Int) = (CC : Int) := IntWalk.i64_in _ (by omega)
    refine Plan.start (SumKeeps w p (p + 1) (p + 1 + 1) LE GR CC) [(0, true), (1, true), (2, true), (3, true), (5, true), (6, true), (4, false), (7, false), (8, true), (9, true), (10, false), (11, true)] (by kernel_rfl) (by kernel_rfl) (by kernel_rfl) (by kernel_rfl) hS0 ?_
    simp only [List.map_cons, List.map_nil, List.getElem?_toArray, List.getElem?_cons_zero, List.getElem?_cons_succ]
    repeat (first | (refine Plan.take ?_ (by rfl) ?_ ?_; rotate_left; (· rintro w9 ⟨⟨hp9, hq9, hr9⟩, -⟩; go_simp; (try rw [if_neg (by omega)]); all_goals (with_reducible rfl)); simp only [Act.put, List.setIfInBounds_toArray, List.set_cons_zero, List.set_cons_succ]) | (refine Plan.pass (by rfl) ?_; simp only [Act.put, List.setIfInBounds_toArray, List.set_cons_zero, List.set_cons_succ]))
    refine Plan.call (by rfl) 22 _ ?_ (G2.out _) ?_
    · go_simp
    rintro e w5 ⟨rfl, hb5⟩
    have hS5 := keeps_on hS0 hb5
    refine ⟨_, rfl, hS5, ?_⟩
    simp only [Act.put, List.setIfInBounds_toArray, List.set_cons_zero, List.set_cons_succ]
    refine Plan.call (by rfl) 22 _ ?_ (G3.out _) ?_
    · go_simp
      try rw [hwC]
    rintro e w6 ⟨rfl, hb6⟩
    have hS6 := keeps_on hS5 hb6
    refine ⟨_, rfl, hS6, ?_⟩
    simp only [Act.put, List.setIfInBounds_toArray, List.set_cons_zero, List.set_cons_succ]
    repeat (first | (refine Plan.take ?_ (by rfl) ?_ ?_; rotate_left; (· rintro w9 ⟨⟨hp9, hq9, hr9⟩, -⟩; go_simp; (try rw [if_neg (by omega)]); all_goals (with_reducible rfl)); simp only [Act.put, List.setIfInBounds_toArray, List.set_cons_zero, List.set_cons_succ]) | (refine Plan.pass (by rfl) ?_; simp only [Act.put, List.setIfInBounds_toArray, List.set_cons_zero, List.set_cons_succ]))
    obtain ⟨_, hbx6, hB6, cs, hcs, hg6⟩ := hS6
    have hrow := setRow_heap w6 w.heap.size cs #[.int .i64 3, .int .i64 (len : Int), .int .i64 GR, .int .i64 0, .string (PA ++ PB)] 24 (0, 0) hg6
    have hbw := below_setRow hB6 (Nat.le_refl w.heap.size) #[.int .i64 3, .int .i64 (len : Int), .int .i64 GR, .int .i64 0, .string (PA ++ PB)]
    refine Plan.store (by rfl) 24 _ _ rfl w.heap.size #[.int .i64 3, .int .i64 (len : Int), .int .i64 GR, .int .i64 0, .string (PA ++ PB)] (by rfl) (by rfl) 24 cs hg6 rec_info hcs (by simp [Value.oneCell']) ?_ ?_
    · exact keeps_of ⟨(setRow_other _ _ _ _ (by omega)).trans hbx6.p, (setRow_other _ _ _ _ (by omega)).trans hbx6.q, (setRow_other _ _ _ _ (by omega)).trans hbx6.r⟩ hbw rfl hrow
    simp only [Act.put]
    repeat (first | (refine Plan.take ?_ (by rfl) ?_ ?_; rotate_left; (· rintro w9 ⟨⟨hp9, hq9, hr9⟩, -⟩; go_simp; (try rw [if_neg (by omega)]); all_goals (with_reducible rfl)); simp only [Act.put, List.setIfInBounds_toArray, List.set_cons_zero, List.set_cons_succ]) | (refine Plan.pass (by rfl) ?_; simp only [Act.put, List.setIfInBounds_toArray, List.set_cons_zero, List.set_cons_succ]))
    refine Plan.ends ?_
    go_wp2_with fail
    refine bodyPost_ret (Plan.results_cell_tmp (p := 2) (q := 3) rfl _ _ _ _ _ _ _ rfl hrow Try.underlying24 rfl rec_info) rfl ⟨?_, hbw⟩
    rw [HM.out.1, HM.out.2, recV, HP.out]
    rfl
  · have hM := hMn hE
    have hE1 : (E != 0) = true := by simp [hE]
    clear hMe hMn
    go_enter Try.func7, Try.ntmps7
    go_wp2_with (first
      | (go_at_call 18; ((with_reducible refine (HS.out _).mono ?_); rintro e w1 ⟨rfl, hb1⟩; have hg1 := row_on hb1 (heap_alloc_new w _) (by simp); have hB1 := ((Below.refl _ w).alloc (Nat.le_refl _) zeroRow).trans (hb1.mono (by simp)); have y1 := hB1.size; have hB3 := ((hB1.alloc y1 (.cells #[.int .i64 1099511627776] 3)).alloc (by simp; omega) (.cells #[.int .i64 0] 3)).alloc (by simp; omega) (.cells #[.int .u32 0] 41)))
      | (go_at_call 19; ((with_reducible refine (HF.out _ hB3 w1.heap.size (w1.heap.size + 1) (w1.heap.size + 1 + 1) y1 (Nat.lt_succ_self _) (Nat.lt_succ_self _) (boxes_new w1)).mono ?_); rintro e w4 ⟨rfl, hb4, -⟩; have hg4 := row_on hb4 (row_al (row_al (row_al hg1 (.cells #[.int .i64 1099511627776] 3)) (.cells #[.int .i64 0] 3)) (.cells #[.int .u32 0] 41)) (show w.heap.size < w1.heap.size from lt_of_block hg1); have hB4 := hB3.trans (hb4.mono y1)))
      | ((with_reducible refine Plan.store_lit 24 (.tmp 2) _ w.heap.size ?_ hg4 ?_ ?_ ?_ ?_ ?_ ?_); rotate_left; (· rfl); (· rfl); (· exact rec_info); (· rfl); (· simp [Value.oneCell']); simp only [Act.put]))
    refine bodyPost_ret (Plan.results_cell_tmp (p := 2) (q := 3) rfl _ _ _ _ _ _ _ rfl (setRow_heap _ _ _ _ _ _ hg4) Try.underlying24 rfl rec_info) rfl ⟨?_, below_setRow hB4 (Nat.le_refl _) _⟩
    rw [hM.1, hM.2, zero_rec]; rfl
theorem make_says : MakeSays := by
  intro a len cap zs w hs
  by_cases h : len = 0 ∨ 64 < len
  · have hL : (bytesOf zs).length = len := by simp [bytesOf, hs.length]
    have hm : SumMath.makeE (bytesOf zs) = 19 := if_pos (by rw [hL]; exact h)
    have hr : SumMath.makeR (bytesOf zs) = RecMath.Rec.zero := by unfold SumMath.makeR; rw [hm]; rfl
    rw [hm, hr, zero_rec]
    exact make_limit a len cap w h
  · exact make_some a len cap zs w hs (by omega) (by omega)
end Go.Proofs.Ytjihkcjoaefppaa
