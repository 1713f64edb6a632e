/- PoolReserve: the host never takes one of the last free zones, the cleaner gets one as long as there is any, and no zone is lost or doubled. No condition. -/
import Derived.Test.YtjdlekjikemdpaaPack23
import Derived.Test.YtjdlekjikemdpaaRows
import Derived.Laws.CopyOwn
import Derived.WalkKit
import Derived.ProofKit
import Derived.SliceStrings
import Derived.OpenShut
import Derived.ShutString
import Derived.ChangeOld
import Derived.Carry
import Derived.Below

/- The walks of Slots, the program's and the document's. -/
namespace Go.Proofs.Ytjdlekjikemdpaa
open Go.RowKit Plan LayMath
/-- a list of numbers that was given back: nothing, or a block of its own -/
def ListAt (w : World) (v : Value) (L : List Int) : Prop := (v = .slice none 0 0 ∧ L = []) ∨ ∃ g cap, v = .slice (some ⟨g, 0, none⟩) L.length cap ∧ 1 ≤ L.length ∧ g < w.heap.size ∧ ∀ (i : Nat) x, L[i]? = some x → w.cell? ⟨g, i, none⟩ = some (.int .i64 x)
theorem ListAt.on {w w' : World} {v : Value} {L : List Int} (h : ListAt w v L) (hb : Below w.heap.size w w') : ListAt w' v L := by
  rcases h with h | ⟨g, cap, h1, h0, h2, h3⟩
  · exact .inl h
  · exact .inr ⟨g, cap, h1, h0, Nat.lt_of_lt_of_le h2 hb.size, fun i x hi => (hb.cell (p := ⟨g, i, none⟩) h2).trans (h3 i x hi)⟩
/-- what Slots leaves -/
def SlotPost (w : World) (L : List Int) (e : Ending) (w' : World) : Prop := ∃ v, e = .returned v ∧ ListAt w' v L ∧ Below w.heap.size w w'
theorem upto_length (P : Int) (n : Nat) : (upto P n).length = n := by simp [upto]
theorem upto_next (P : Int) (n : Nat) : upto P (n + 1) = upto P n ++ [P + (n : Int)] := by simp [upto, List.range_succ]
theorem upto_get {P : Int} {n i : Nat} {x : Int} (h : (upto P n)[i]? = some x) : i < n ∧ x = P + (i : Int) := by
  have hi : i < n := by
    have := (List.getElem?_eq_some_iff.1 h).1
    rwa [upto_length] at this
  unfold upto at h
  rw [List.getElem?_map, List.getElem?_range hi] at h
  exact ⟨hi, (Option.some.inj h).symm⟩
theorem ints_upto (P : Int) (n : Nat) : ints (upto P (n + 1)) = ints (upto P n) ++ [.int .i64 (P + (n : Int))] := by rw [upto_next]; simp [ints]
theorem listAt_owned {w : World} {B n : Nat} {v : Value} {P : Int} (h : w.ownsRow B 3 1 v n (ints (upto P n))) (hn : 1 ≤ n) : ListAt w v (upto P n) := by
  have hlt : ∀ g cap, v = .slice (some ⟨g, 0, none⟩) n cap → g < w.heap.size := fun g cap e => (h.lt g (by rw [e]; rfl)).2
  have hc : ∀ g cap, v = .slice (some ⟨g, 0, none⟩) n cap → ∀ (i : Nat) x, (upto P n)[i]? = some x → w.cell? ⟨g, i, none⟩ = some (.int .i64 x) := fun g cap e i x hi => by
    subst e
    have := h.cells (g := g) rfl i (.int .i64 x) (by unfold ints; rw [List.getElem?_map, hi]; rfl)
    rwa [Addr.add_lit, Nat.zero_add] at this
  rcases h.2 with ⟨_, h0⟩ | ⟨g, cap, cur, e, _⟩
  · omega
  · exact .inr ⟨g, cap, by rw [upto_length]; exact e, by rw [upto_length]; exact hn, hlt g cap e, hc g cap e⟩
/-- one cell of a row of the call's own is written -/
theorem lay_owns_cell {w : World} {B g n cap : Nat} {t : TypeId} {C : List Value} (h : w.ownsRow B t 1 (.slice (some ⟨g, 0, none⟩) n cap) n C) (j : Nat) (u : Value) :
    (w.setCell ⟨g, j, none⟩ u).ownsRow B t 1 (.slice (some ⟨g, 0, none⟩) n cap) n (C.set j u) := by
  obtain ⟨h1, h2⟩ := h
  rcases h2 with ⟨h, _⟩ | ⟨g', cap', cur, hv, hb, hg, k1, k2, k3, k4⟩
  · cases h
  · cases hv
    refine ⟨by rw [List.length_set]; exact h1, .inr ⟨g, cap, cur.setIfInBounds j u, rfl, hb, ?_, k1, k2, by simpa using k3, ?_⟩⟩
    · rw [setCell_eq_setRow w g j cur t (0, 0) u hg]
      exact setRow_heap w g cur _ t (0, 0) hg
    · rw [Array.toList_setIfInBounds, List.take_set, k4]
theorem lay_owns_at {w : World} {B g n cap : Nat} {t : TypeId} {C : List Value} (h : w.ownsRow B t 1 (.slice (some ⟨g, 0, none⟩) n cap) n C) {j : Nat} (hj : j < n) : (∃ u, w.cell? ⟨g, j, none⟩ = some u) ∧ w.frozen? ⟨g, j, none⟩ = false := by
  have hl : C.length = n := by have := h.1; omega
  constructor
  · have := h.cells (g := g) rfl j C[j] (List.getElem?_eq_getElem _)
    rw [Addr.add_lit, Nat.zero_add] at this
    exact ⟨_, this⟩
  · rcases h.2 with ⟨h, _⟩ | ⟨g', cap', cur, hv, hb, hg, _⟩
    · cases h
    · cases hv
      simp [World.frozen?, hg]
/-- the first j cells are written -/
def Filled (C : List Value) (P : Int) (j : Nat) : Prop := ∀ i : Nat, i < j → C[i]? = some (.int .i64 (P + (i : Int)))
theorem filled_next {C : List Value} {P V : Int} {j : Nat} (h : Filled C P j) (hj : j < C.length) (hV : V = P + (j : Int)) : Filled (C.set j (.int .i64 V)) P (j + 1) := by
  intro i hi
  subst hV
  by_cases e : i = j
  · subst e; rw [List.getElem?_set_self hj]
  · rw [List.getElem?_set_ne (fun h => e h.symm)]; exact h i (by omega)
theorem filled_all {C : List Value} {P : Int} {n : Nat} (h : Filled C P n) (hl : C.length = n) : C = ints (upto P n) := by
  apply List.ext_getElem?
  intro i
  by_cases hi : i < n
  · rw [h i hi]
    unfold ints upto
    rw [List.getElem?_map, List.getElem?_map, List.getElem?_range hi]
    rfl
  · rw [List.getElem?_eq_none (by omega), List.getElem?_eq_none (by rw [ints_length, upto_length]; omega)]
end Go.Proofs.Ytjdlekjikemdpaa

/- The walk of the document's own Slots; Slots for any configuration. -/
namespace Go.Proofs.Ytjdlekjikemdpaa
open Go.RowKit Plan LayMath
theorem one_cell (w : World) (V : Int) : ∀ j u, ([.int .i64 V] : List Value)[j]? = some u → (w.alloc (.cells #[.int .i64 V] 3)).cell? ((⟨w.heap.size, 0, none⟩ : Addr).add j) = some u := by
  intro j u hj
  match j, hj with
  | 0, hj => simp at hj; subst hj; rw [Addr.add_lit]; exact cell_of_row _ _ 0 _ _ _ (heap_alloc_new w (.cells #[.int .i64 V] 3))
theorem slot_nat {s b : Int} (h1 : 1 ≤ slotN s b) : ∃ n : Nat, slotN s b = (n : Int) := ⟨(slotN s b).toNat, by omega⟩
end Go.Proofs.Ytjdlekjikemdpaa

/- The walks of the law's same and awake, and of LayoutExact. -/
namespace Go.Proofs.Ytjdlekjikemdpaa
open Go.RowKit Plan LayMath
theorem slotsL_length (z s b q d h k : Int) : (slotsL z s b q d h k).length ≤ 35184372088832 := by
  by_cases hy : errN z s b q d h = 0 ∧ (k = 0 ∨ k = 1)
  · obtain ⟨s1, s2, z1, z2, b1, b2, -⟩ := inR_iff.1 (errN_zero hy.1).1
    obtain ⟨l1, l2⟩ := slot_bounds s1 s2 b1 b2
    unfold slotsL
    rw [if_pos hy, upto_length]
    omega
  · unfold slotsL
    rw [if_neg hy]
    exact Nat.zero_le _
end Go.Proofs.Ytjdlekjikemdpaa

/- The walk of LayoutDivides. -/
namespace Go.Proofs.Ytjdlekjikemdpaa
open Go.RowKit Plan LayMath
/-- a small configuration is possible -/
theorem small_conf (zs : List Int) (k : Nat) : ∃ (n : Nat) (X R : Int), (1 ≤ n ∧ n ≤ 3) ∧ (6 ≤ X ∧ X ≤ 8) ∧ (6 ≤ R ∧ R ≤ 25) ∧ smZ zs k = 2 * (n : Int) + X ∧ slotN (smS zs k) (smB zs k) = (n : Int) ∧
    smB zs k + 2 ≤ (n : Int) * smS zs k ∧ (X - 3) * (smS zs k - 1) = R ∧ errN (smZ zs k) (smS zs k) (smB zs k) (smQ zs k) (smD zs k) (smH zs k) = 0 ∧
    layV (smZ zs k) (smS zs k) (smB zs k) (smQ zs k) = .agg #[.int .i64 (n : Int), .int .i64 (2 * (n : Int)), .int .i64 X, .int .i64 (R - smQ zs k - 1)] := by
  obtain ⟨⟨s1, s2⟩, ⟨b1, b2⟩, ⟨q1, q2⟩, ⟨d1, d2⟩, ⟨h1, h2⟩, ⟨t1, t2⟩⟩ := small_range zs k
  unfold smZ
  generalize smS zs k = s at *
  generalize smB zs k = b at *
  generalize smQ zs k = q at *
  generalize smD zs k = d at *
  generalize smH zs k = h at *
  generalize smT zs k = t at *
  obtain ⟨l1, -⟩ := slot_bounds s1 (show s ≤ 64 by omega) b1 (show b ≤ 128 by omega)
  have l2 : slotN s b < 4 := by unfold slotN; exact (Int.ediv_lt_iff_lt_mul (by omega)).2 (by omega)
  have l3 := slot_room (b := b) s1
  have hd : dataN (2 * slotN s b + 6 + t) s b = 6 + t := by unfold dataN; omega
  have hR : 6 ≤ (6 + t - 3) * (s - 1) ∧ (6 + t - 3) * (s - 1) ≤ 25 := by
    have h1 : (6 + t - 3) * (s - 1) ≤ 5 * (s - 1) := Int.mul_le_mul_of_nonneg_right (by omega) (by omega)
    have h2 : 3 * (s - 1) ≤ (6 + t - 3) * (s - 1) := Int.mul_le_mul_of_nonneg_right (by omega) (by omega)
    omega
  have hc : capN (2 * slotN s b + 6 + t) s b q = (6 + t - 3) * (s - 1) - q - 1 := by unfold capN; rw [hd]
  have hi : inR (2 * slotN s b + 6 + t) s b q d h = true := inR_iff.2 (by omega)
  have hf : fits (2 * slotN s b + 6 + t) s b q = true := by
    unfold fits
    rw [hd, hc]
    simp
    omega
  have he := errN_fit hi hf
  refine ⟨(slotN s b).toNat, 6 + t, _, ⟨by omega, by omega⟩, ⟨by omega, by omega⟩, hR, ?_, ?_, ?_, rfl, he, ?_⟩
  · rw [Int.toNat_of_nonneg (by omega)]; omega
  · rw [Int.toNat_of_nonneg (by omega)]
  · rw [Int.toNat_of_nonneg (by omega)]; exact l3
  · unfold layV
    rw [Int.toNat_of_nonneg (by omega), hd, hc]
/-- the list of a slot, opened: a block and its cells -/
theorem listAt_upto {w : World} {v : Value} {P : Int} {n : Nat} (h : ListAt w v (upto P n)) (hn : 1 ≤ n) : ∃ g cap, v = .slice (some ⟨g, 0, none⟩) n cap ∧ g < w.heap.size ∧ ∀ i : Nat, i < n → w.cell? ⟨g, i, none⟩ = some (.int .i64 (P + (i : Int))) := by
  rcases h with ⟨_, h⟩ | ⟨g, cap, h1, _, h2, h3⟩
  · have := congrArg List.length h
    rw [upto_length] at this
    simp at this
    omega
  · rw [upto_length] at h1
    refine ⟨g, cap, h1, h2, fun i hi => h3 i _ ?_⟩
    unfold upto
    rw [List.getElem?_map, List.getElem?_range hi]
    rfl
theorem below_small {a b c : World} {B g : Nat} (h : Below B a b) (hg : b.grownBy c (some g)) (hB : B ≤ g) (hs : B ≤ b.heap.size) : Below B a c :=
  h.grown hg hs (fun k hk => by obtain rfl := Option.some.inj hk; exact hB)
/-- how many of the first k places of both slots are i -/
def cnt (i n k : Int) : Int := (if i < k then 1 else 0) + (if n ≤ i ∧ i < n + k then 1 else 0)
theorem cnt_zero {i n : Int} (h : 0 ≤ i) : cnt i n 0 = 0 := by unfold cnt; rw [if_neg (by omega), if_neg (by omega)]; rfl
theorem cnt_same {i n k : Int} (h1 : k ≠ i) (h2 : n + k ≠ i) : cnt i n (k + 1) = cnt i n k := by
  unfold cnt
  congr 1
  · by_cases h : i < k
    · rw [if_pos h, if_pos (by omega)]
    · rw [if_neg h, if_neg (by omega)]
  · by_cases h : n ≤ i ∧ i < n + k
    · rw [if_pos h, if_pos (by omega)]
    · rw [if_neg h, if_neg (by omega)]
theorem cnt_more {i n k : Int} (h0 : 0 ≤ k) (hk : k < n) (h : k = i ∨ n + k = i) : cnt i n (k + 1) = cnt i n k + 1 := by
  unfold cnt
  rcases h with rfl | rfl
  · rw [if_pos (by omega), if_neg (by omega), if_neg (by omega), if_neg (by omega)]
    rfl
  · rw [if_neg (by omega), if_pos (by omega), if_neg (by omega), if_neg (by omega)]
    rfl
theorem cnt_end {i n : Int} (hn : 0 ≤ n) : cnt i n n = if i < 2 * n then 1 else 0 := by
  unfold cnt
  by_cases h1 : i < n
  · rw [if_pos h1, if_neg (by omega), if_pos (by omega)]; rfl
  · by_cases h2 : i < 2 * n
    · rw [if_neg h1, if_pos (by omega), if_pos h2]; rfl
    · rw [if_neg h1, if_neg (by omega), if_neg h2]; rfl
theorem cnt_range (i n k : Int) : 0 ≤ cnt i n k ∧ cnt i n k ≤ 2 := by
  unfold cnt
  split <;> split <;> omega
end Go.Proofs.Ytjdlekjikemdpaa

/- The walk of PoolReserve, under the program's contracts. -/
namespace Go.Proofs.Ytjdlekjikemdpaa.PoolMath
theorem hostB_is {D : Int → Bool} {P : Po} (hv : validP true D P = true) : hostB true D P = (decide (P.host = -1) && decide (2 < P.free.length)) := by unfold hostB; rw [hv, Bool.true_and]
theorem cleanB_is {D : Int → Bool} {P : Po} (hv : validP true D P = true) : cleanB true D P = (decide (P.clean = -1) && decide (0 < P.free.length)) := by unfold cleanB; rw [hv, Bool.true_and]
theorem leaveB_is {D : Int → Bool} {P : Po} {b : Bool} (hv : validP true D P = true) : leaveB true D P b = (if b = true then !decide (P.host = -1) else !decide (P.clean = -1)) := by unfold leaveB; rw [hv, Bool.true_and]
theorem cnt_is (P : Po) : P.free.length + one P.host + one P.clean = cntP P := rfl
theorem free_le (P : Po) : P.free.length ≤ cntP P := by unfold cntP; omega
theorem host_lanes {D : Int → Bool} {P : Po} (hD : D (-1) = false) (hv : validP true D P = true) : decide ((hostP true D P).host = -1) = (decide (P.host = -1) && !decide (2 < P.free.length)) ∧ (hostP true D P).clean = P.clean := by
  have hB := hostB_is hv
  cases hb : hostB true D P
  · rw [hb] at hB
    rw [show hostP true D P = P from by unfold hostP; rw [hb]; rfl]
    refine ⟨?_, rfl⟩
    cases h1 : decide (P.host = -1)
    · rfl
    · rw [h1, Bool.true_and] at hB
      rw [← hB]
      rfl
  · obtain ⟨y, r, hf, he, hm⟩ := host_is hb
    have hy := not_none hD ((valid_iff.1 hv).1.1 y (hf ▸ List.mem_cons_self ..))
    rw [hb, decide_eq_true hm, Bool.true_and] at hB
    rw [he, decide_eq_true hm, ← hB]
    exact ⟨decide_eq_false hy, rfl⟩
theorem clean_lanes {D : Int → Bool} {P : Po} (hD : D (-1) = false) (hv : validP true D P = true) : decide ((cleanP true D P).clean = -1) = (decide (P.clean = -1) && !decide (0 < P.free.length)) ∧ (cleanP true D P).host = P.host := by
  have hB := cleanB_is hv
  cases hb : cleanB true D P
  · rw [hb] at hB
    rw [show cleanP true D P = P from by unfold cleanP; rw [hb]; rfl]
    refine ⟨?_, rfl⟩
    cases h1 : decide (P.clean = -1)
    · rfl
    · rw [h1, Bool.true_and] at hB
      rw [← hB]
      rfl
  · obtain ⟨y, r, hf, he, hm⟩ := clean_is hb
    have hy := not_none hD ((valid_iff.1 hv).1.1 y (hf ▸ List.mem_cons_self ..))
    rw [hb, decide_eq_true hm, Bool.true_and] at hB
    rw [he, decide_eq_true hm, ← hB]
    exact ⟨decide_eq_false hy, rfl⟩
theorem leave_lanes {D : Int → Bool} {P : Po} (hv : validP true D P = true) : ((leaveP true D P true).host = -1 ∧ (leaveP true D P true).clean = P.clean) ∧ (leaveP true D P false).host = P.host ∧ (leaveP true D P false).clean = -1 := by
  have h1 := @leaveB_is D P true hv
  have h2 := @leaveB_is D P false hv
  constructor
  · unfold leaveP
    rw [h1]
    by_cases h : P.host = -1 <;> simp [h]
  · unfold leaveP
    rw [h2]
    by_cases h : P.clean = -1 <;> simp [h]
theorem one_bool {x : Int} {b : Bool} (h : decide (x = -1) = b) : one x = (if b = true then 0 else 1) := by
  unfold one
  by_cases hx : x = -1
  · rw [decide_eq_true hx] at h
    subst h
    rw [if_pos hx, if_pos rfl]
  · rw [decide_eq_false hx] at h
    subst h
    rw [if_neg hx, if_neg (by decide)]
theorem tail_facts {Q : Po} {n o M : Nat} {x y : Int} {b b' : Bool} (f1 : decide (x = -1) = b) (f2 : decide (y = -1) = b') (hx : Q.host = x) (hy : Q.clean = y) (hn : Q.free.length = n) (hc : cntP Q + o = M) :
    (x != -1) = !b ∧ (y != -1) = !b' ∧ n + (if b = true then 0 else 1) + (if b' = true then 0 else 1) + o = M := by
  refine ⟨congrArg (!·) f1, congrArg (!·) f2, ?_⟩
  rw [← one_bool f1, ← one_bool f2, ← hx, ← hy, ← hn]
  exact hc
theorem split4 {k : Int} (h : 0 ≤ k ∧ k < 4) : k = 0 ∨ k = 1 ∨ k = 2 ∨ k = 3 := by omega
end Go.Proofs.Ytjdlekjikemdpaa.PoolMath
namespace Go.Proofs.Ytjdlekjikemdpaa.Ents
open Go.RowKit Plan EntMath CntMath PoolMath LayMath
theorem four_row {w : World} {g : Nat} {a b c d : Value} {t : TypeId} {fr : Nat × Nat} (h : w.heap[g]? = some (.cells #[a, b, c, d] t fr)) : w.cell? ⟨g, 0, none⟩ = some a ∧ w.cell? ⟨g, 1, none⟩ = some b ∧ w.cell? ⟨g, 2, none⟩ = some c ∧ w.cell? ⟨g, 3, none⟩ = some d := ⟨cell_of_row _ _ 0 _ _ _ h, cell_of_row _ _ 1 _ _ _ h, cell_of_row _ _ 2 _ _ _ h, cell_of_row _ _ 3 _ _ _ h⟩
set_option maxHeartbeats 16000000 in
set_option maxRecDepth 20000 in
theorem poolReserve_any (H : PoolOk) (a0 : Option Addr) (l c0 : Nat) (zs : List Int) (w : World) (hl : IsRow .i64 w a0 l c0 zs) :
    Calls Try.prog 5 #[.slice a0 l c0] w fun r w' => r = .returned (.bool true) ∧ Below w.heap.size w w' := by
  have HW := Lib.hid (fun W => poolAwake_any H W)
  have HLT := Lib.hid (fun W => light_any a0 l c0 W)
  have hb := Below.refl w.heap.size w
  by_cases hm : (l : Int) ≤ 300
  · rw [decide_eq_true hm] at HLT
    have HRL := Lib.hid (fun W (h : Below w.heap.size w W) => roll_any a0 l c0 zs W (isRow_up hl h) (by omega))
    unfold RollPost at HRL
    have HLL := Lib.hid (show (zs.take l).length ≤ 100000 from by rw [List.length_take]; omega)
    generalize zs.take l = LL at *
    clear hm hl hb
    obtain ⟨n0, X0, R0, hn0, hX0, -, hz0, hs0, -, -, he0, hv0⟩ := small_conf LL 0
    obtain ⟨M, rfl⟩ : ∃ M : Nat, X0 = (M : Int) := ⟨X0.toNat, by omega⟩
    have HOF := Lib.hid (fun W => layRefOf_any (smZ LL 0) (smS LL 0) (smB LL 0) (smQ LL 0) (smD LL 0) (smH LL 0) W)
    rw [of_zero he0, hv0] at HOF
    have HIS := fun z => @isN_yes (smZ LL 0) (smS LL 0) (smB LL 0) (smQ LL 0) (smD LL 0) (smH LL 0) z he0
    rw [hs0] at HIS
    have hk0 := smk_up LL 0
    generalize hgz : smZ LL 0 = cz at *
    generalize hgs : smS LL 0 = cs at *
    generalize hgb : smB LL 0 = cb at *
    generalize hgq : smQ LL 0 = cq at *
    generalize hgd : smD LL 0 = cd at *
    generalize hgh : smH LL 0 = ch at *
    generalize hgk : smK LL 0 = k0 at *
    have hV0 : decide (errN cz cs cb cq cd ch = 0) = true := decide_eq_true he0
    have hput := fun (Q : Po) s (F : Nat → Prop) a n c h k W q (ll : FList W F a n c h k Q) (hn : n ≤ 1000) => H.put F Q cz cs cb cq cd ch s a n c h k W q ll hn
    have hhost := fun (Q : Po) (F : Nat → Prop) a n c h k W q (ll : FList W F a n c h k Q) (hn : n ≤ 1000) => H.host F Q cz cs cb cq cd ch a n c h k W q ll hn
    have hclean := fun (Q : Po) (F : Nat → Prop) a n c h k W q (ll : FList W F a n c h k Q) (hn : n ≤ 1000) => H.clean F Q cz cs cb cq cd ch a n c h k W q ll hn
    have hleave := fun (Q : Po) s (F : Nat → Prop) a n c h k W q (ll : FList W F a n c h k Q) (hn : n ≤ 1000) => H.leave F Q cz cs cb cq cd ch s a n c h k W q ll hn
    have hvalid := fun (Q : Po) (F : Nat → Prop) a n c h k W q (ll : FList W F a n c h k Q) (hn : n ≤ 1000) => H.valid F Q cz cs cb cq cd ch a n c h k W q ll hn
    simp only [hV0] at hput hhost hclean hleave hvalid
    generalize isN cz cs cb cq cd ch = DZ at *
    have hDm : DZ (-1) = false := by rw [HIS]; simp; omega
    have hDr : ∀ z, 2 * (n0 : Int) ≤ z → z < cz → DZ z = true := fun z h1 h2 => by rw [HIS]; simp [h1, h2]
    have Hput := Lib.hid hput
    have Hhost := Lib.hid hhost
    have Hclean := Lib.hid hclean
    have Hleave := Lib.hid hleave
    have Hvalid := Lib.hid hvalid
    have HDR := Lib.hid hDr
    have HDM := Lib.hid hDm
    have hz1 := Lib.hid hz0
    have hcz : 8 ≤ cz ∧ cz ≤ 14 := by omega
    unfold confV at *
    clear hz0 hput hhost hclean hleave hvalid hDr hDm HIS hV0 he0 hv0 hs0
    unfold PoPost at *
    go_enter Try.func5, Try.ntmps5
    go_wp2_with (first
      | (go_at_call 8; ((with_reducible refine (HLT.out _).mono ?_); rintro r9 w4 ⟨rfl, rfl⟩))
      | (go_at_call 9; ((with_reducible refine (HRL.out _ (Below.refl _ _)).mono ?_); rintro r9 w1 ⟨q, rfl, hd, h9⟩; have D1 := BxD.roll (Bxs.start w) hd h9; clear hd h9 HRL))
      | (go_at_call 10; ((with_reducible refine (small_any _ _ q LL 0 D1.dd HLL.out).mono ?_); rintro r9 w2 ⟨rfl, hd2, gr2⟩; unfold confV; rw [hgz, hgs, hgb, hgq, hgd, hgh]; rw [hgk] at hd2; have D2 := (D1.next hd2 gr2).al (confRow cz cs cb cq cd ch); clear D1 hd2 gr2; generalize hC : w2.heap.size = C at *))
      | ((with_reducible refine Plan.load_lit 26 (.tmp 4) (C) ?_ (D2.get 0 rfl) Try.underlying26 ?_ ?_ ?_); (· rfl); (· rfl); (· exact conf_info); simp only [Act.put, List.setIfInBounds_toArray, List.set_cons_zero, List.set_cons_succ])
      | (go_at_call 17; ((with_reducible refine (HOF.out _).mono ?_); rintro r9 w3 ⟨rfl, h9⟩; have D3 := (D2.on h9).al (layRow (n0 : Int) (2 * (n0 : Int)) (M : Int) (R0 - cq - 1)); clear D2 h9 HOF; have D4 := D3.al (poRow none 0 0 (-1) (-1)); have hs3 : (w3.alloc (layRow (n0 : Int) (2 * (n0 : Int)) (M : Int) (R0 - cq - 1))).heap.size = w3.heap.size + 1 := (by simp); rw [hs3] at D4; clear D3 hs3 hC; have D := D4; clear D4; obtain ⟨y0, y1, y2, y3⟩ := four_row (D.get 1 rfl))))
    clear hgz hgs hgb hgq hgd hgh hgk
    generalize w3.heap.size + 1 = X at *
    generalize w3.heap.size = Y at *
    have ll0 : FList _ (fun b => b ≠ X ∧ b ≠ C ∧ b ≠ q) none 0 0 (-1) (-1) (fill (2 * (n0 : Int)) 0) := ⟨rfl, rfl, IList.nil ((w3.alloc (layRow (n0 : Int) (2 * (n0 : Int)) (M : Int) (R0 - cq - 1))).alloc (poRow none 0 0 (-1) (-1))) _⟩
    go_loopw [9] (fun x wr => ∃ (j : Nat) (a : Option Addr) (c : Nat), x = .int .i64 (2 * (n0 : Int) + (j : Int)) ∧ (2 * (n0 : Int) + (j : Int) ≤ cz) ∧ BxD w wr [(X, poRow a j c (-1) (-1)), (Y, layRow (n0 : Int) (2 * (n0 : Int)) (M : Int) (R0 - cq - 1)), (C, confRow cz cs cb cq cd ch)] w.heap.size q LL k0 ∧ FList wr (fun b => b ≠ X ∧ b ≠ C ∧ b ≠ q) a j c (-1) (-1) (fill (2 * (n0 : Int)) j)) (fun x _ => 20 - (intOf x).toNat)
    case atStart => exact ⟨0, _, _, by simp, by omega, D, ll0⟩
    case round =>
      clear D ll0 y0 y1 y2 y3
      obtain ⟨j, a, c, rfl, hj, D, ll⟩ := hrel
      obtain ⟨d0, d1, d2, d3, d4, d5⟩ := six_row (D.get 2 rfl)
      by_cases hlt : 2 * (n0 : Int) + (j : Int) < cz
      · have hfn := @fill_next DZ (2 * (n0 : Int)) j (by omega) (fun z h1 h2 => HDR.out z h1 (by omega))
        have hpu := fun F a n c h k W q ll hn => Hput.out (fill (2 * (n0 : Int)) j) (2 * (n0 : Int) + (j : Int)) F a n c h k W q ll hn
        rw [hfn.1, hfn.2] at hpu
        have HPU := Lib.hid hpu
        clear hpu hfn
        go_wp2_with (first
          | ((with_reducible refine Plan.load_lit 24 (.tmp 7) (X) ?_ (D.get 0 rfl) Try.underlying24 ?_ ?_ ?_); (· rfl); (· rfl); (· exact po_info); simp only [Act.put, List.setIfInBounds_toArray, List.set_cons_zero, List.set_cons_succ])
          | ((with_reducible refine Plan.load_lit 26 (.tmp 4) (C) ?_ (D.get 2 rfl) Try.underlying26 ?_ ?_ ?_); (· rfl); (· rfl); (· exact conf_info); simp only [Act.put, List.setIfInBounds_toArray, List.set_cons_zero, List.set_cons_succ])
          | (go_at_call 18; ((with_reducible refine (HPU.out _ _ _ _ _ _ _ (fun b hb => hb.2) ll.cut (by omega)).mono ?_); rintro r9 w6 ⟨xa, xn, xc, xh, xk, rfl, lx, h9⟩; obtain rfl : xh = (-1) := lx.hh.symm; obtain rfl : xk = (-1) := lx.hk.symm; obtain rfl : xn = j + 1 := lx.f.length.symm.trans (upto_len _ _); have l5 := (pool_res lx (e_lt (D.get 0 rfl)) (e_lt (D.get 2 rfl)) (dice_lt D.dd)).on (Same.alloc w6 (poRow xa (j + 1) xc (-1) (-1))); have D9 := (D.on h9).al' (poRow xa (j + 1) xc (-1) (-1)); clear D lx h9 ll d0 d1 d2 d3 d4 d5; have D := D9; clear D9))
          | ((with_reducible refine Plan.load_lit 24 (.tmp 10) (w6.heap.size) ?_ (heap_alloc_new w6 (poRow xa (j + 1) xc (-1) (-1))) Try.underlying24 ?_ ?_ ?_); (· rfl); (· rfl); (· exact po_info); simp only [Act.put, List.setIfInBounds_toArray, List.set_cons_zero, List.set_cons_succ])
          | ((with_reducible refine Plan.store_lit 24 (.tmp 7) _ X ?_ (D.get 0 rfl) ?_ ?_ ?_ ?_ ?_ ?_); rotate_left; (· rfl); (· rfl); (· exact po_info); (· rfl); (· simp [Value.oneCell']); simp only [Act.put]; have D9 := D.put 0 rfl (B' := [(X, poRow xa (j + 1) xc (-1) (-1)), (Y, layRow (n0 : Int) (2 * (n0 : Int)) (M : Int) (R0 - cq - 1)), (C, confRow cz cs cb cq cd ch)]) rfl; have l6 := l5.on (Same.row (r := X) (fun h => h.1 rfl) #[.slice xa (j + 1) xc, .int .i64 (-1), .int .i64 (-1)]); generalize (w6.alloc (poRow xa (j + 1) xc (-1) (-1))).setRow X #[.slice xa (j + 1) xc, .int .i64 (-1), .int .i64 (-1)] = w7 at *; clear D l5; have D := D9; have ll := l6; clear D9 l6; obtain ⟨d0, d1, d2, d3, d4, d5⟩ := six_row (D.get 2 rfl)))
        go_roundw
        case rel => exact ⟨j + 1, _, _, by go_num, by omega, D, ll⟩
        case measure => simp [intOf]; omega
      · have hjI : ¬ 2 * (n0 : Int) + (j : Int) < cz := hlt
        obtain rfl : M = j := by have := hz1.out; omega
        have hv0 := Lib.hid (@fill_valid DZ (2 * (n0 : Int)) M (fun z h1 h2 => HDR.out z h1 (by have := hz1.out; omega)))
        have hc0 := Lib.hid (show cntP (fill (2 * (n0 : Int)) M) + 0 = M from by unfold cntP fill; simp [upto_len, one])
        clear Hput HDR
        go_wp2_with fail
        clear d0 d1 d2 d3 d4 d5
        go_loopw [8, 12] (fun o x wr => ∃ (i out k1 : Nat) (Q : Po) (a : Option Addr) (n c : Nat) (h k : Int), o = .int .i64 (out : Int) ∧ x = .int .i64 (i : Int) ∧ i ≤ 60 ∧ k1 ≤ 6 + i ∧ RowKit.Hid (validP true DZ Q = true) ∧ RowKit.Hid (cntP Q + out = M) ∧ BxD w wr [(X, poRow a n c h k), (Y, layRow (n0 : Int) (2 * (n0 : Int)) (M : Int) (R0 - cq - 1)), (C, confRow cz cs cb cq cd ch)] w.heap.size q LL k1 ∧ FList wr (fun b => b ≠ X ∧ b ≠ C ∧ b ≠ q) a n c h k Q) (fun _ x _ => 60 - (intOf x).toNat)
        case atStart => exact ⟨0, 0, k0, _, _, _, _, _, _, rfl, rfl, by omega, by omega, hv0, hc0, D, ll⟩
        case round =>
          clear D ll hv0 hc0
          obtain ⟨i, out, k1, Q, a, n, c, h, k, rfl, rfl, hi, hk, hv, hcn, D, ll⟩ := hrel
          by_cases hlt : i < 60
          · have hiI : (i : Int) < 60 := by omega
            by_cases hrs : 0 < (LL.length : Int) - (k1 : Int)
            · have r1 : decide (0 < max 0 ((LL.length : Int) - (k1 : Int))) = true := by simp; omega
              have r2 : max 0 ((LL.length : Int) - (k1 : Int)) = (LL.length : Int) - (k1 : Int) := by omega
              have hlen := ll.f.length
              have e1 := ll.hh
              have e2 := ll.hk
              have u1 := stp_up LL k1
              have hnM : n ≤ M := by have h1 := free_le Q; have h2 := hcn.out; omega
              have hoM : out ≤ M := by have h2 := hcn.out; omega
              have hM8 : M ≤ 8 := by omega
              have hr4 := nxt_range LL k1 4 (by omega)
              obtain ⟨p1, hp1⟩ : ∃ p, decide (h = -1) = p := ⟨_, rfl⟩
              obtain ⟨p2, hp2⟩ : ∃ p, decide (k = -1) = p := ⟨_, rfl⟩
              obtain ⟨p3, hp3⟩ : ∃ p, decide (2 < n) = p := ⟨_, rfl⟩
              obtain ⟨p4, hp4⟩ : ∃ p, decide (0 < n) = p := ⟨_, rfl⟩
              have hbh : hostB true DZ Q = (p1 && p3) := by rw [hostB_is hv.out, e1, hlen, hp1, hp3]
              have hbc : cleanB true DZ Q = (p2 && p4) := by rw [cleanB_is hv.out, e2, hlen, hp2, hp4]
              have hbt : leaveB true DZ Q true = !p1 := by rw [leaveB_is hv.out, if_pos rfl, e1, hp1]
              have hbf : leaveB true DZ Q false = !p2 := by rw [leaveB_is hv.out, if_neg (by decide), e2, hp2]
              have hho := fun F a n c h k W q ll hn => Hhost.out Q F a n c h k W q ll hn
              have hcl := fun F a n c h k W q ll hn => Hclean.out Q F a n c h k W q ll hn
              have hlt' := fun F a n c h k W q ll hn => Hleave.out Q true F a n c h k W q ll hn
              have hlf := fun F a n c h k W q ll hn => Hleave.out Q false F a n c h k W q ll hn
              have a1 : decide ((hostP true DZ Q).host = -1) = (p1 && !p3) := by rw [(host_lanes HDM.out hv.out).1, e1, hlen, hp1, hp3]
              have a2 : decide ((hostP true DZ Q).clean = -1) = p2 := by rw [(host_lanes HDM.out hv.out).2, e2, hp2]
              have a3 : decide ((cleanP true DZ Q).host = -1) = p1 := by rw [(clean_lanes HDM.out hv.out).2, e1, hp1]
              have a4 : decide ((cleanP true DZ Q).clean = -1) = (p2 && !p4) := by rw [(clean_lanes HDM.out hv.out).1, e2, hlen, hp2, hp4]
              have a5 : decide ((leaveP true DZ Q true).host = -1) = true := by rw [(leave_lanes hv.out).1.1]; rfl
              have a6 : decide ((leaveP true DZ Q true).clean = -1) = p2 := by rw [(leave_lanes hv.out).1.2, e2, hp2]
              have a7 : decide ((leaveP true DZ Q false).host = -1) = p1 := by rw [(leave_lanes hv.out).2.1, e1, hp1]
              have a8 : decide ((leaveP true DZ Q false).clean = -1) = true := by rw [(leave_lanes hv.out).2.2]; rfl
              have g1 : cntP (hostP true DZ Q) + out = M := by rw [host_cnt HDM.out hv.out]; exact hcn.out
              have g2 : cntP (cleanP true DZ Q) + out = M := by rw [clean_cnt HDM.out hv.out]; exact hcn.out
              have g3 : cntP (leaveP true DZ Q true) + (out + (if (!p1) = true then 1 else 0)) = M := by have h1 := @leave_cnt DZ Q true; rw [hbt] at h1; have h2 := hcn.out; omega
              have g4 : cntP (leaveP true DZ Q false) + (out + (if (!p2) = true then 1 else 0)) = M := by have h1 := @leave_cnt DZ Q false; rw [hbf] at h1; have h2 := hcn.out; omega
              have w1 := host_valid HDM.out hv.out
              have w2 := clean_valid HDM.out hv.out
              have w3 := leave_valid (b := true) hv.out
              have w4 := leave_valid (b := false) hv.out
              simp only [hbh] at hho
              simp only [hbc] at hcl
              simp only [hbt] at hlt'
              simp only [hbf] at hlf
              clear hbh hbc hbt hbf e1 e2 hlen
              generalize hostP true DZ Q = Q1 at *
              generalize cleanP true DZ Q = Q2 at *
              generalize leaveP true DZ Q true = Q3 at *
              generalize leaveP true DZ Q false = Q4 at *
              have o1 : (h == (-1 : Int)) = p1 := hp1
              have o2 : (k == (-1 : Int)) = p2 := hp2
              have o3 : (h != (-1 : Int)) = !p1 := congrArg (!·) hp1
              have o4 : (k != (-1 : Int)) = !p2 := congrArg (!·) hp2
              have o5 : decide ((2 : Int) < (n : Int)) = p3 := by rw [← hp3]; congr 1; simp; omega
              have o6 : decide ((0 : Int) < (n : Int)) = p4 := by rw [← hp4]; congr 1; simp
              have hN : p3 = true → p4 = true := fun h3 => by subst h3; have := of_decide_eq_true hp3; rw [← hp4]; exact decide_eq_true (by omega)
              clear hp1 hp2
              have hLLb := HLL.out
              rcases split4 hr4 with hx4 | hx4 | hx4 | hx4
              all_goals clear hr4
              · replace hx4 := Lib.hid hx4
                clear hcl hlt' hlf a3 a4 a5 a6 a7 a8 g2 g3 g4 w2 w3 w4 o6 hN
                cases p1 <;> cases p2 <;> cases p3
                all_goals
                  simp only [Bool.and_true, Bool.and_false, Bool.not_true, Bool.not_false] at hho a1 o3 o4
                  replace hho := Lib.hid hho
                  replace a1 := Lib.hid a1
                  replace a2 := Lib.hid a2
                  replace g1 := Lib.hid g1
                  replace w1 := Lib.hid w1
                  obtain ⟨x0, x1, x2⟩ := three_row (D.get 0 rfl)
                all_goals
                  go_wp2_with (first
                    | (go_at_call 11; ((with_reducible refine (rest_dice _ _ _ _ _ D.dd HLL.out (by omega)).mono ?_); rintro r9 w9 ⟨rfl, rfl⟩; have D9 := D.drew; have ll9 := ll.on (w' := wr.drew) ⟨Nat.le_refl _, fun _ _ _ => rfl⟩; clear D ll x0 x1 x2; have D := D9; have ll := ll9; clear D9 ll9; obtain ⟨x0, x1, x2⟩ := three_row (D.get 0 rfl)))
                    | (go_at_call 12; ((with_reducible refine (next_any _ _ _ _ _ 4 D.dd HLL.out (by omega) (by omega)).mono ?_); rintro r9 w9 ⟨rfl, hd, hgr, hsz⟩; have D9 := D.next hd hgr; have ll9 := ll.on (w' := w9) ⟨hgr.size, fun b hb hlt => hgr.block b hlt (fun e => hb.2.2 (Option.some.inj e))⟩; clear D ll hd hgr hsz x0 x1 x2; have D := D9; have ll := ll9; clear D9 ll9; obtain ⟨x0, x1, x2⟩ := three_row (D.get 0 rfl); rw [hx4.out]))
                    | ((with_reducible refine Plan.load_lit 24 (.tmp 7) (X) ?_ (D.get 0 rfl) Try.underlying24 ?_ ?_ ?_); (· rfl); (· rfl); (· exact po_info); simp only [Act.put, List.setIfInBounds_toArray, List.set_cons_zero, List.set_cons_succ])
                    | ((with_reducible refine Plan.load_lit 26 (.tmp 4) (C) ?_ (D.get 2 rfl) Try.underlying26 ?_ ?_ ?_); (· rfl); (· rfl); (· exact conf_info); simp only [Act.put, List.setIfInBounds_toArray, List.set_cons_zero, List.set_cons_succ])
                    | (go_at_call 19; ((with_reducible refine (hho.out _ _ _ _ _ _ _ (fun b hb => hb.2) ll.cut (by omega)).mono ?_); rintro r9 w6 ⟨xa, xn, xc, xh, xk, rfl, lx, h9⟩; have l5 := (pool_res lx (e_lt (D.get 0 rfl)) (e_lt (D.get 2 rfl)) (dice_lt D.dd)).on (Same.alloc w6 (poRow xa xn xc xh xk)); have D9 := (D.on h9).al' (poRow xa xn xc xh xk); have g9 := g1; have hv9 := w1; obtain ⟨s1, s2, z1⟩ := tail_facts ((congrArg (fun x => decide (x = -1)) lx.hh.symm).trans a1.out) ((congrArg (fun x => decide (x = -1)) lx.hk.symm).trans a2.out) lx.hh lx.hk lx.f.length g9.out; simp only [Bool.not_true, Bool.not_false, if_true, Bool.false_eq_true, if_false] at s1 s2 z1; have z0 : xn ≤ 8 := (by omega); (first | (have z2 : ((xn : Int) + (out : Int) != (M : Int)) = false := (by simp; omega)) | (have z2 : ((xn : Int) + (out : Int) + 1 != (M : Int)) = false := (by simp; omega)) | (have z2 : ((xn : Int) + (out : Int) + 1 + 1 != (M : Int)) = false := (by simp; omega))); replace z1 := Lib.hid z1; clear D lx h9 ll x0 x1 x2 hho; have D := D9; clear D9; obtain ⟨x0, x1, x2⟩ := three_row (D.get 0 rfl); obtain ⟨y0, y1, y2, y3⟩ := four_row (D.get 1 rfl)))
                    | ((with_reducible refine Plan.load_lit 24 (.tmp 15) (w6.heap.size) ?_ (heap_alloc_new w6 (poRow xa xn xc xh xk)) Try.underlying24 ?_ ?_ ?_); (· rfl); (· rfl); (· exact po_info); simp only [Act.put, List.setIfInBounds_toArray, List.set_cons_zero, List.set_cons_succ])
                    | ((with_reducible refine Plan.store_lit 24 (.tmp 7) _ X ?_ (D.get 0 rfl) ?_ ?_ ?_ ?_ ?_ ?_); rotate_left; (· rfl); (· rfl); (· exact po_info); (· rfl); (· simp [Value.oneCell']); simp only [Act.put]; have D9 := D.put 0 rfl (B' := [(X, poRow xa xn xc xh xk), (Y, layRow (n0 : Int) (2 * (n0 : Int)) (M : Int) (R0 - cq - 1)), (C, confRow cz cs cb cq cd ch)]) rfl; have l6 := l5.on (Same.row (r := X) (fun h => h.1 rfl) #[.slice xa xn xc, .int .i64 xh, .int .i64 xk]); generalize (w6.alloc (poRow xa xn xc xh xk)).setRow X #[.slice xa xn xc, .int .i64 xh, .int .i64 xk] = w7 at *; clear D l5 x0 x1 x2 y0 y1 y2 y3; have D := D9; have ll := l6; clear D9 l6; obtain ⟨x0, x1, x2⟩ := three_row (D.get 0 rfl); obtain ⟨y0, y1, y2, y3⟩ := four_row (D.get 1 rfl); have HV9 := Lib.hid (Hvalid.out _ _ _ _ _ _ _ _ (fun b hb => hb.2) ll.cut (by omega)); rw [hv9.out] at HV9)
                    | ((with_reducible refine load_lit_gc 24 (.tmp 7) (X) ?_ ?_ (D.get 0 rfl) Try.underlying24 ?_ ?_ ?_); (· rfl); (· rfl); (· rfl); (· exact po_info); simp only [Act.put, List.setIfInBounds_toArray, List.set_cons_zero, List.set_cons_succ])
                    | ((with_reducible refine load_lit_gc 26 (.tmp 4) (C) ?_ ?_ (D.get 2 rfl) Try.underlying26 ?_ ?_ ?_); (· rfl); (· rfl); (· rfl); (· exact conf_info); simp only [Act.put, List.setIfInBounds_toArray, List.set_cons_zero, List.set_cons_succ])
                    | (go_at_call 22; ((with_reducible refine (HV9.out).mono ?_); rintro r9 w8 ⟨rfl, h9⟩; have D9 := D.on h9; have ll9 := ll.on (Same.below h9); clear D ll h9 x0 x1 x2 y0 y1 y2 y3 HV9; have D := D9; have ll := ll9; clear D9 ll9)))
                all_goals
                  go_roundw
                  case rel =>
                    first
                      | exact ⟨i + 1, out, _, _, _, _, _, _, _, rfl, by go_num, by omega, by omega, hv9, g9, D, ll⟩
                      | exact ⟨i + 1, out + 1, _, _, _, _, _, _, _, by go_num, by go_num, by omega, by omega, hv9, g9, D, ll⟩
                  case measure => simp [intOf]; omega
              · replace hx4 := Lib.hid hx4
                clear hho hlt' hlf a1 a2 a5 a6 a7 a8 g1 g3 g4 w1 w3 w4 o5 hN
                cases p1 <;> cases p2 <;> cases p4
                all_goals
                  simp only [Bool.and_true, Bool.and_false, Bool.not_true, Bool.not_false] at hcl a4 o3 o4
                  replace hcl := Lib.hid hcl
                  replace a3 := Lib.hid a3
                  replace a4 := Lib.hid a4
                  replace g2 := Lib.hid g2
                  replace w2 := Lib.hid w2
                  obtain ⟨x0, x1, x2⟩ := three_row (D.get 0 rfl)
                all_goals
                  go_wp2_with (first
                    | (go_at_call 11; ((with_reducible refine (rest_dice _ _ _ _ _ D.dd HLL.out (by omega)).mono ?_); rintro r9 w9 ⟨rfl, rfl⟩; have D9 := D.drew; have ll9 := ll.on (w' := wr.drew) ⟨Nat.le_refl _, fun _ _ _ => rfl⟩; clear D ll x0 x1 x2; have D := D9; have ll := ll9; clear D9 ll9; obtain ⟨x0, x1, x2⟩ := three_row (D.get 0 rfl)))
                    | (go_at_call 12; ((with_reducible refine (next_any _ _ _ _ _ 4 D.dd HLL.out (by omega) (by omega)).mono ?_); rintro r9 w9 ⟨rfl, hd, hgr, hsz⟩; have D9 := D.next hd hgr; have ll9 := ll.on (w' := w9) ⟨hgr.size, fun b hb hlt => hgr.block b hlt (fun e => hb.2.2 (Option.some.inj e))⟩; clear D ll hd hgr hsz x0 x1 x2; have D := D9; have ll := ll9; clear D9 ll9; obtain ⟨x0, x1, x2⟩ := three_row (D.get 0 rfl); rw [hx4.out]))
                    | ((with_reducible refine Plan.load_lit 24 (.tmp 7) (X) ?_ (D.get 0 rfl) Try.underlying24 ?_ ?_ ?_); (· rfl); (· rfl); (· exact po_info); simp only [Act.put, List.setIfInBounds_toArray, List.set_cons_zero, List.set_cons_succ])
                    | ((with_reducible refine Plan.load_lit 26 (.tmp 4) (C) ?_ (D.get 2 rfl) Try.underlying26 ?_ ?_ ?_); (· rfl); (· rfl); (· exact conf_info); simp only [Act.put, List.setIfInBounds_toArray, List.set_cons_zero, List.set_cons_succ])
                    | (go_at_call 20; ((with_reducible refine (hcl.out _ _ _ _ _ _ _ (fun b hb => hb.2) ll.cut (by omega)).mono ?_); rintro r9 w6 ⟨xa, xn, xc, xh, xk, rfl, lx, h9⟩; have l5 := (pool_res lx (e_lt (D.get 0 rfl)) (e_lt (D.get 2 rfl)) (dice_lt D.dd)).on (Same.alloc w6 (poRow xa xn xc xh xk)); have D9 := (D.on h9).al' (poRow xa xn xc xh xk); have g9 := g2; have hv9 := w2; obtain ⟨s1, s2, z1⟩ := tail_facts ((congrArg (fun x => decide (x = -1)) lx.hh.symm).trans a3.out) ((congrArg (fun x => decide (x = -1)) lx.hk.symm).trans a4.out) lx.hh lx.hk lx.f.length g9.out; simp only [Bool.not_true, Bool.not_false, if_true, Bool.false_eq_true, if_false] at s1 s2 z1; have z0 : xn ≤ 8 := (by omega); (first | (have z2 : ((xn : Int) + (out : Int) != (M : Int)) = false := (by simp; omega)) | (have z2 : ((xn : Int) + (out : Int) + 1 != (M : Int)) = false := (by simp; omega)) | (have z2 : ((xn : Int) + (out : Int) + 1 + 1 != (M : Int)) = false := (by simp; omega))); replace z1 := Lib.hid z1; clear D lx h9 ll x0 x1 x2 hcl; have D := D9; clear D9; obtain ⟨x0, x1, x2⟩ := three_row (D.get 0 rfl); obtain ⟨y0, y1, y2, y3⟩ := four_row (D.get 1 rfl)))
                    | ((with_reducible refine Plan.load_lit 24 (.tmp 17) (w6.heap.size) ?_ (heap_alloc_new w6 (poRow xa xn xc xh xk)) Try.underlying24 ?_ ?_ ?_); (· rfl); (· rfl); (· exact po_info); simp only [Act.put, List.setIfInBounds_toArray, List.set_cons_zero, List.set_cons_succ])
                    | ((with_reducible refine Plan.store_lit 24 (.tmp 7) _ X ?_ (D.get 0 rfl) ?_ ?_ ?_ ?_ ?_ ?_); rotate_left; (· rfl); (· rfl); (· exact po_info); (· rfl); (· simp [Value.oneCell']); simp only [Act.put]; have D9 := D.put 0 rfl (B' := [(X, poRow xa xn xc xh xk), (Y, layRow (n0 : Int) (2 * (n0 : Int)) (M : Int) (R0 - cq - 1)), (C, confRow cz cs cb cq cd ch)]) rfl; have l6 := l5.on (Same.row (r := X) (fun h => h.1 rfl) #[.slice xa xn xc, .int .i64 xh, .int .i64 xk]); generalize (w6.alloc (poRow xa xn xc xh xk)).setRow X #[.slice xa xn xc, .int .i64 xh, .int .i64 xk] = w7 at *; clear D l5 x0 x1 x2 y0 y1 y2 y3; have D := D9; have ll := l6; clear D9 l6; obtain ⟨x0, x1, x2⟩ := three_row (D.get 0 rfl); obtain ⟨y0, y1, y2, y3⟩ := four_row (D.get 1 rfl); have HV9 := Lib.hid (Hvalid.out _ _ _ _ _ _ _ _ (fun b hb => hb.2) ll.cut (by omega)); rw [hv9.out] at HV9)
                    | ((with_reducible refine load_lit_gc 24 (.tmp 7) (X) ?_ ?_ (D.get 0 rfl) Try.underlying24 ?_ ?_ ?_); (· rfl); (· rfl); (· rfl); (· exact po_info); simp only [Act.put, List.setIfInBounds_toArray, List.set_cons_zero, List.set_cons_succ])
                    | ((with_reducible refine load_lit_gc 26 (.tmp 4) (C) ?_ ?_ (D.get 2 rfl) Try.underlying26 ?_ ?_ ?_); (· rfl); (· rfl); (· rfl); (· exact conf_info); simp only [Act.put, List.setIfInBounds_toArray, List.set_cons_zero, List.set_cons_succ])
                    | (go_at_call 22; ((with_reducible refine (HV9.out).mono ?_); rintro r9 w8 ⟨rfl, h9⟩; have D9 := D.on h9; have ll9 := ll.on (Same.below h9); clear D ll h9 x0 x1 x2 y0 y1 y2 y3 HV9; have D := D9; have ll := ll9; clear D9 ll9)))
                all_goals
                  go_roundw
                  case rel =>
                    first
                      | exact ⟨i + 1, out, _, _, _, _, _, _, _, rfl, by go_num, by omega, by omega, hv9, g9, D, ll⟩
                      | exact ⟨i + 1, out + 1, _, _, _, _, _, _, _, by go_num, by go_num, by omega, by omega, hv9, g9, D, ll⟩
                  case measure => simp [intOf]; omega
              · replace hx4 := Lib.hid hx4
                clear hho hcl hlf a1 a2 a3 a4 a7 a8 g1 g2 g4 w1 w2 w4 o5 o6 hN
                cases p1 <;> cases p2
                all_goals
                  simp only [Bool.not_true, Bool.not_false, if_true, Bool.false_eq_true, if_false, Nat.add_zero] at hlt' g3 o3 o4
                  replace hlt' := Lib.hid hlt'
                  replace a5 := Lib.hid a5
                  replace a6 := Lib.hid a6
                  replace g3 := Lib.hid g3
                  replace w3 := Lib.hid w3
                  obtain ⟨x0, x1, x2⟩ := three_row (D.get 0 rfl)
                all_goals
                  go_wp2_with (first
                    | (go_at_call 11; ((with_reducible refine (rest_dice _ _ _ _ _ D.dd HLL.out (by omega)).mono ?_); rintro r9 w9 ⟨rfl, rfl⟩; have D9 := D.drew; have ll9 := ll.on (w' := wr.drew) ⟨Nat.le_refl _, fun _ _ _ => rfl⟩; clear D ll x0 x1 x2; have D := D9; have ll := ll9; clear D9 ll9; obtain ⟨x0, x1, x2⟩ := three_row (D.get 0 rfl)))
                    | (go_at_call 12; ((with_reducible refine (next_any _ _ _ _ _ 4 D.dd HLL.out (by omega) (by omega)).mono ?_); rintro r9 w9 ⟨rfl, hd, hgr, hsz⟩; have D9 := D.next hd hgr; have ll9 := ll.on (w' := w9) ⟨hgr.size, fun b hb hlt => hgr.block b hlt (fun e => hb.2.2 (Option.some.inj e))⟩; clear D ll hd hgr hsz x0 x1 x2; have D := D9; have ll := ll9; clear D9 ll9; obtain ⟨x0, x1, x2⟩ := three_row (D.get 0 rfl); rw [hx4.out]))
                    | ((with_reducible refine Plan.load_lit 24 (.tmp 7) (X) ?_ (D.get 0 rfl) Try.underlying24 ?_ ?_ ?_); (· rfl); (· rfl); (· exact po_info); simp only [Act.put, List.setIfInBounds_toArray, List.set_cons_zero, List.set_cons_succ])
                    | ((with_reducible refine Plan.load_lit 26 (.tmp 4) (C) ?_ (D.get 2 rfl) Try.underlying26 ?_ ?_ ?_); (· rfl); (· rfl); (· exact conf_info); simp only [Act.put, List.setIfInBounds_toArray, List.set_cons_zero, List.set_cons_succ])
                    | (go_at_call 21; ((with_reducible refine (hlt'.out _ _ _ _ _ _ _ (fun b hb => hb.2) ll.cut (by omega)).mono ?_); rintro r9 w6 ⟨xa, xn, xc, xh, xk, rfl, lx, h9⟩; have l5 := (pool_res lx (e_lt (D.get 0 rfl)) (e_lt (D.get 2 rfl)) (dice_lt D.dd)).on (Same.alloc w6 (poRow xa xn xc xh xk)); have D9 := (D.on h9).al' (poRow xa xn xc xh xk); have g9 := g3; have hv9 := w3; obtain ⟨s1, s2, z1⟩ := tail_facts ((congrArg (fun x => decide (x = -1)) lx.hh.symm).trans a5.out) ((congrArg (fun x => decide (x = -1)) lx.hk.symm).trans a6.out) lx.hh lx.hk lx.f.length g9.out; simp only [Bool.not_true, Bool.not_false, if_true, Bool.false_eq_true, if_false] at s1 s2 z1; have z0 : xn ≤ 8 := (by omega); (try (have z2 : ((xn : Int) + (out : Int) != (M : Int)) = false := (by simp; omega))); (try (have z3 : ((xn : Int) + (out : Int) + 1 != (M : Int)) = false := (by simp; omega))); (try (have z4 : ((xn : Int) + (out : Int) + 1 + 1 != (M : Int)) = false := (by simp; omega))); (try (have z5 : ((xn : Int) + ((out : Int) + 1) != (M : Int)) = false := (by simp; omega))); (try (have z6 : ((xn : Int) + ((out : Int) + 1) + 1 != (M : Int)) = false := (by simp; omega))); (try (have z7 : ((xn : Int) + ((out : Int) + 1) + 1 + 1 != (M : Int)) = false := (by simp; omega))); replace z1 := Lib.hid z1; clear D lx h9 ll x0 x1 x2 hlt'; have D := D9; clear D9; obtain ⟨x0, x1, x2⟩ := three_row (D.get 0 rfl); obtain ⟨y0, y1, y2, y3⟩ := four_row (D.get 1 rfl)))
                    | ((with_reducible refine Plan.load_lit 24 (.tmp 19) (w6.heap.size) ?_ (heap_alloc_new w6 (poRow xa xn xc xh xk)) Try.underlying24 ?_ ?_ ?_); (· rfl); (· rfl); (· exact po_info); simp only [Act.put, List.setIfInBounds_toArray, List.set_cons_zero, List.set_cons_succ])
                    | ((with_reducible refine Plan.store_lit 24 (.tmp 7) _ X ?_ (D.get 0 rfl) ?_ ?_ ?_ ?_ ?_ ?_); rotate_left; (· rfl); (· rfl); (· exact po_info); (· rfl); (· simp [Value.oneCell']); simp only [Act.put]; have D9 := D.put 0 rfl (B' := [(X, poRow xa xn xc xh xk), (Y, layRow (n0 : Int) (2 * (n0 : Int)) (M : Int) (R0 - cq - 1)), (C, confRow cz cs cb cq cd ch)]) rfl; have l6 := l5.on (Same.row (r := X) (fun h => h.1 rfl) #[.slice xa xn xc, .int .i64 xh, .int .i64 xk]); generalize (w6.alloc (poRow xa xn xc xh xk)).setRow X #[.slice xa xn xc, .int .i64 xh, .int .i64 xk] = w7 at *; clear D l5 x0 x1 x2 y0 y1 y2 y3; have D := D9; have ll := l6; clear D9 l6; obtain ⟨x0, x1, x2⟩ := three_row (D.get 0 rfl); obtain ⟨y0, y1, y2, y3⟩ := four_row (D.get 1 rfl); have HV9 := Lib.hid (Hvalid.out _ _ _ _ _ _ _ _ (fun b hb => hb.2) ll.cut (by omega)); rw [hv9.out] at HV9)
                    | ((with_reducible refine load_lit_gc 24 (.tmp 7) (X) ?_ ?_ (D.get 0 rfl) Try.underlying24 ?_ ?_ ?_); (· rfl); (· rfl); (· rfl); (· exact po_info); simp only [Act.put, List.setIfInBounds_toArray, List.set_cons_zero, List.set_cons_succ])
                    | ((with_reducible refine load_lit_gc 26 (.tmp 4) (C) ?_ ?_ (D.get 2 rfl) Try.underlying26 ?_ ?_ ?_); (· rfl); (· rfl); (· rfl); (· exact conf_info); simp only [Act.put, List.setIfInBounds_toArray, List.set_cons_zero, List.set_cons_succ])
                    | (go_at_call 22; ((with_reducible refine (HV9.out).mono ?_); rintro r9 w8 ⟨rfl, h9⟩; have D9 := D.on h9; have ll9 := ll.on (Same.below h9); clear D ll h9 x0 x1 x2 y0 y1 y2 y3 HV9; have D := D9; have ll := ll9; clear D9 ll9)))
                all_goals
                  go_roundw
                  case rel =>
                    first
                      | exact ⟨i + 1, out, _, _, _, _, _, _, _, rfl, by go_num, by omega, by omega, hv9, g9, D, ll⟩
                      | exact ⟨i + 1, out + 1, _, _, _, _, _, _, _, by go_num, by go_num, by omega, by omega, hv9, g9, D, ll⟩
                  case measure => simp [intOf]; omega
              · replace hx4 := Lib.hid hx4
                clear hho hcl hlt' a1 a2 a3 a4 a5 a6 g1 g2 g3 w1 w2 w3 o5 o6 hN
                cases p1 <;> cases p2
                all_goals
                  simp only [Bool.not_true, Bool.not_false, if_true, Bool.false_eq_true, if_false, Nat.add_zero] at hlf g4 o3 o4
                  replace hlf := Lib.hid hlf
                  replace a7 := Lib.hid a7
                  replace a8 := Lib.hid a8
                  replace g4 := Lib.hid g4
                  replace w4 := Lib.hid w4
                  obtain ⟨x0, x1, x2⟩ := three_row (D.get 0 rfl)
                all_goals
                  go_wp2_with (first
                    | (go_at_call 11; ((with_reducible refine (rest_dice _ _ _ _ _ D.dd HLL.out (by omega)).mono ?_); rintro r9 w9 ⟨rfl, rfl⟩; have D9 := D.drew; have ll9 := ll.on (w' := wr.drew) ⟨Nat.le_refl _, fun _ _ _ => rfl⟩; clear D ll x0 x1 x2; have D := D9; have ll := ll9; clear D9 ll9; obtain ⟨x0, x1, x2⟩ := three_row (D.get 0 rfl)))
                    | (go_at_call 12; ((with_reducible refine (next_any _ _ _ _ _ 4 D.dd HLL.out (by omega) (by omega)).mono ?_); rintro r9 w9 ⟨rfl, hd, hgr, hsz⟩; have D9 := D.next hd hgr; have ll9 := ll.on (w' := w9) ⟨hgr.size, fun b hb hlt => hgr.block b hlt (fun e => hb.2.2 (Option.some.inj e))⟩; clear D ll hd hgr hsz x0 x1 x2; have D := D9; have ll := ll9; clear D9 ll9; obtain ⟨x0, x1, x2⟩ := three_row (D.get 0 rfl); rw [hx4.out]))
                    | ((with_reducible refine Plan.load_lit 24 (.tmp 7) (X) ?_ (D.get 0 rfl) Try.underlying24 ?_ ?_ ?_); (· rfl); (· rfl); (· exact po_info); simp only [Act.put, List.setIfInBounds_toArray, List.set_cons_zero, List.set_cons_succ])
                    | ((with_reducible refine Plan.load_lit 26 (.tmp 4) (C) ?_ (D.get 2 rfl) Try.underlying26 ?_ ?_ ?_); (· rfl); (· rfl); (· exact conf_info); simp only [Act.put, List.setIfInBounds_toArray, List.set_cons_zero, List.set_cons_succ])
                    | (go_at_call 21; ((with_reducible refine (hlf.out _ _ _ _ _ _ _ (fun b hb => hb.2) ll.cut (by omega)).mono ?_); rintro r9 w6 ⟨xa, xn, xc, xh, xk, rfl, lx, h9⟩; have l5 := (pool_res lx (e_lt (D.get 0 rfl)) (e_lt (D.get 2 rfl)) (dice_lt D.dd)).on (Same.alloc w6 (poRow xa xn xc xh xk)); have D9 := (D.on h9).al' (poRow xa xn xc xh xk); have g9 := g4; have hv9 := w4; obtain ⟨s1, s2, z1⟩ := tail_facts ((congrArg (fun x => decide (x = -1)) lx.hh.symm).trans a7.out) ((congrArg (fun x => decide (x = -1)) lx.hk.symm).trans a8.out) lx.hh lx.hk lx.f.length g9.out; simp only [Bool.not_true, Bool.not_false, if_true, Bool.false_eq_true, if_false] at s1 s2 z1; have z0 : xn ≤ 8 := (by omega); (try (have z2 : ((xn : Int) + (out : Int) != (M : Int)) = false := (by simp; omega))); (try (have z3 : ((xn : Int) + (out : Int) + 1 != (M : Int)) = false := (by simp; omega))); (try (have z4 : ((xn : Int) + (out : Int) + 1 + 1 != (M : Int)) = false := (by simp; omega))); (try (have z5 : ((xn : Int) + ((out : Int) + 1) != (M : Int)) = false := (by simp; omega))); (try (have z6 : ((xn : Int) + ((out : Int) + 1) + 1 != (M : Int)) = false := (by simp; omega))); (try (have z7 : ((xn : Int) + ((out : Int) + 1) + 1 + 1 != (M : Int)) = false := (by simp; omega))); replace z1 := Lib.hid z1; clear D lx h9 ll x0 x1 x2 hlf; have D := D9; clear D9; obtain ⟨x0, x1, x2⟩ := three_row (D.get 0 rfl); obtain ⟨y0, y1, y2, y3⟩ := four_row (D.get 1 rfl)))
                    | ((with_reducible refine Plan.load_lit 24 (.tmp 19) (w6.heap.size) ?_ (heap_alloc_new w6 (poRow xa xn xc xh xk)) Try.underlying24 ?_ ?_ ?_); (· rfl); (· rfl); (· exact po_info); simp only [Act.put, List.setIfInBounds_toArray, List.set_cons_zero, List.set_cons_succ])
                    | ((with_reducible refine Plan.store_lit 24 (.tmp 7) _ X ?_ (D.get 0 rfl) ?_ ?_ ?_ ?_ ?_ ?_); rotate_left; (· rfl); (· rfl); (· exact po_info); (· rfl); (· simp [Value.oneCell']); simp only [Act.put]; have D9 := D.put 0 rfl (B' := [(X, poRow xa xn xc xh xk), (Y, layRow (n0 : Int) (2 * (n0 : Int)) (M : Int) (R0 - cq - 1)), (C, confRow cz cs cb cq cd ch)]) rfl; have l6 := l5.on (Same.row (r := X) (fun h => h.1 rfl) #[.slice xa xn xc, .int .i64 xh, .int .i64 xk]); generalize (w6.alloc (poRow xa xn xc xh xk)).setRow X #[.slice xa xn xc, .int .i64 xh, .int .i64 xk] = w7 at *; clear D l5 x0 x1 x2 y0 y1 y2 y3; have D := D9; have ll := l6; clear D9 l6; obtain ⟨x0, x1, x2⟩ := three_row (D.get 0 rfl); obtain ⟨y0, y1, y2, y3⟩ := four_row (D.get 1 rfl); have HV9 := Lib.hid (Hvalid.out _ _ _ _ _ _ _ _ (fun b hb => hb.2) ll.cut (by omega)); rw [hv9.out] at HV9)
                    | ((with_reducible refine load_lit_gc 24 (.tmp 7) (X) ?_ ?_ (D.get 0 rfl) Try.underlying24 ?_ ?_ ?_); (· rfl); (· rfl); (· rfl); (· exact po_info); simp only [Act.put, List.setIfInBounds_toArray, List.set_cons_zero, List.set_cons_succ])
                    | ((with_reducible refine load_lit_gc 26 (.tmp 4) (C) ?_ ?_ (D.get 2 rfl) Try.underlying26 ?_ ?_ ?_); (· rfl); (· rfl); (· rfl); (· exact conf_info); simp only [Act.put, List.setIfInBounds_toArray, List.set_cons_zero, List.set_cons_succ])
                    | (go_at_call 22; ((with_reducible refine (HV9.out).mono ?_); rintro r9 w8 ⟨rfl, h9⟩; have D9 := D.on h9; have ll9 := ll.on (Same.below h9); clear D ll h9 x0 x1 x2 y0 y1 y2 y3 HV9; have D := D9; have ll := ll9; clear D9 ll9)))
                all_goals
                  go_roundw
                  case rel =>
                    first
                      | exact ⟨i + 1, out, _, _, _, _, _, _, _, rfl, by go_num, by omega, by omega, hv9, g9, D, ll⟩
                      | exact ⟨i + 1, out + 1, _, _, _, _, _, _, _, by go_num, by go_num, by omega, by omega, hv9, g9, D, ll⟩
                  case measure => simp [intOf]; omega
            · have r1 : decide (0 < max 0 ((LL.length : Int) - (k1 : Int))) = false := by simp; omega
              have r2 : max 0 ((LL.length : Int) - (k1 : Int)) = 0 := by omega
              go_wp2_with (first
                | (go_at_call 11; ((with_reducible refine (rest_dice _ _ _ _ _ D.dd HLL.out (by omega)).mono ?_); rintro r9 w9 ⟨rfl, rfl⟩; have D9 := D.drew; clear D ll; have D := D9; clear D9))
                | (go_at_call 7; ((with_reducible refine (HW.out _).mono ?_); rintro r9 w6 ⟨rfl, h9⟩; have D9 := D.on h9; clear D h9; have D := D9; clear D9)))
              go_ret
              exact ⟨rfl, D.hb⟩
          · have hiI : ¬ (i : Int) < 60 := by omega
            go_wp2_with (first
              | (go_at_call 7; ((with_reducible refine (HW.out _).mono ?_); rintro r9 w6 ⟨rfl, h9⟩; have D9 := D.on h9; clear D h9; have D := D9; clear D9)))
            go_ret
            exact ⟨rfl, D.hb⟩
  · rw [decide_eq_false hm] at HLT
    clear hl hb hm
    go_enter Try.func5, Try.ntmps5
    go_wp2_with (first
      | (go_at_call 8; ((with_reducible refine (HLT.out _).mono ?_); rintro r9 w4 ⟨rfl, rfl⟩))
      | (go_at_call 7; ((with_reducible refine (HW.out _).mono ?_); rintro r9 w5 ⟨rfl, h5⟩)))
    go_ret
    exact ⟨rfl, h5⟩
end Go.Proofs.Ytjdlekjikemdpaa.Ents

/- PoolReserve: the host never takes one of the last free zones, the cleaner gets one as long as there is any, and no zone is lost or doubled. No condition. -/
namespace Go.Proofs.Ytjdlekjikemdpaa.poolReserve
open Go.ChangeShapes Go.WideShapes Go.ChangeAt Go.RowKit
open Go.ChangeMaps (open_string shut_string)
set_option linter.unusedVariables false

theorem own : ownKnob Try.prog.godebug = none := by kernel_rfl
theorem laidOut : laidOutB Try.prog = true := by kernel_rfl

theorem walk (a0 : Option Addr) (l0 c0 : Nat) (z0 : List Int) (w : World) (w0 : IsRow .i64 w a0 l0 c0 z0) :
    Calls Try.prog 5 #[.slice a0 l0 c0] w fun e w' => e = .returned (.bool true) ∧ Below w.heap.size w w' := by
  exact Ents.poolReserve_any Ents.poolOk a0 l0 c0 z0 w w0

set_option maxRecDepth 100000 in
theorem lifted (os : Os) (started : os.Started) (H : Type) (enc : TypeId × Value → H) :
    ReturnsInHanded {} Try.checked os 5 .any (Rows.poolReserveSpec.pre6 enc Try.prog Try.f5 Rows.poolReserveRow.domain false) (Rows.poolReserveSpec.post enc Try.prog Try.f5 false true false false) := by
  refine returnsInHanded_of_change (C := Try.checked) own started (by kernel_rfl) Try.func5
    (ChangeSpec.witness6 (enc := enc) (C := Try.checked) false ⟨#[], #[.slice none 0 0], []⟩ 8 (by kernel_rfl) (by kernel_rfl) (by kernel_rfl) (by kernel_rfl)) ?_
  intro W base args ds gs before hval0 hW hcnd _
  have hval : ∀ (j : Nat) t v, Try.f5.params[j]? = some t → args[j]? = some v → Value.okWide Try.prog W .any base t v := hval0
  have hW' := hW
  obtain ⟨p, q, hA0, hV, rfl, hfz, hnd⟩ := hW
  have hA : DataW.TrodAll enc Try.prog W 0 (fun _ => true) true Try.f5.params.toList args.toList ds p := hA0
  rw [Try.params5] at hA hval
  obtain ⟨v0, vs0, d0, ds0, p0, q0, hargs, rfl, rfl, h0, r0⟩ := trodAll_cons hA
  obtain ⟨rfl, rfl, rfl⟩ := trodAll_nil r0
  obtain rfl : args = #[v0] := by cases args; simp_all
  obtain ⟨rfl, rfl⟩ := trodVars_none hV
  have k0' := h0
  have lt0 : ∀ x ∈ p0, x.block < W.heap.size := by obtain ⟨m, hm⟩ := h0; exact DataW.trod_lt m _ _ _ hm
  obtain ⟨a0, l0, c0, rfl⟩ := okWide_slice Try.underlying22 (hval 0 22 v0 rfl rfl)
  obtain ⟨z0, w0⟩ : ∃ zs, IsRow .i64 W a0 l0 c0 zs := by
    obtain ⟨fuel, hf⟩ := h0
    rcases open_ints Try.underlying22 Try.underlying3 (by kernel_rfl) hf with ⟨hcs, _⟩ | ⟨x, l, c, zs, hcs, _, hl, hm, hz, _, hcell, hwz⟩
    · simp [Value.cells] at hcs
      obtain ⟨rfl, rfl, rfl⟩ := hcs
      exact ⟨[], .inl ⟨rfl, rfl, rfl, rfl⟩⟩
    · simp [Value.cells] at hcs
      obtain ⟨rfl, rfl, rfl⟩ := hcs
      exact ⟨zs, .inr ⟨_, rfl, hl, hm, by simpa using hz, hcell, hwz⟩⟩
  clear hA0 hval0
  refine (walk a0 l0 c0 z0 W w0).mono fun e W' ⟨he, bel⟩ => ?_
  subst he
  exact ⟨_, rfl, _, _, _, [], _, [], hW', trodAll_mk1 (shut_bool Try.underlying4 _), (trodAll_cons_mk (Below.trod laidOut (by kernel_rfl) (of_decide_eq_true (by kernel_rfl)) k0' bel lt0) trodAll_mk0), rfl, bel.frame _, fun h => by cases h⟩

theorem over : Rows.poolReserveRow.holds Try.pinned (OpenSpec.ofChange Rows.poolReserveSpec) :=
  OpenClaim.holds_of_wide 5 Try.f5 rfl rfl rfl rfl rfl rfl rfl ⟨rfl, rfl, rfl, rfl, rfl⟩ rfl rfl rfl rfl rfl (by kernel_rfl) Try.func5 (by kernel_rfl)
    (of_decide_eq_true (by kernel_rfl)) (by unfold Func.isWrapper; first | (rw [if_pos (by decide +kernel)]; kernel_rfl) | (rw [if_neg (by decide +kernel)]; exact ⟨rfl, rfl⟩))
    (fun os started H enc _ => lifted os started H enc)
end Go.Proofs.Ytjdlekjikemdpaa.poolReserve

namespace Go.Proofs.Ytjdlekjikemdpaa
theorem poolReserve_holds : Rows.PoolReserveSaid := poolReserve.over
end Go.Proofs.Ytjdlekjikemdpaa
