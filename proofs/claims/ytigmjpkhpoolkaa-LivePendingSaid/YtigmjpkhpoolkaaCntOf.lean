
/- The walk of the document's Of of counters. -/
import Derived.Test.YtigmjpkhpoolkaaCntNew
import Derived.Test.YtigmjpkhpoolkaaEntValid
import Derived.Test.YtigmjpkhpoolkaaCntClear
import Derived.Test.YtigmjpkhpoolkaaBaseLast
import Derived.Test.YtigmjpkhpoolkaaBaseStore
namespace Go.Proofs.Ytigmjpkhpoolkaa.Ents
open Go.RowKit Plan EntMath CntMath
abbrev intRow (Z : List Int) : Obj := .cells (intC Z).toArray 3
theorem zero_row (n : Nat) : zeroRow n = intRow (List.replicate n 0) := by
  have h : madeCells #[(.int .i64 0 : Value)] n = (intC (List.replicate n 0)).toArray := by
    refine Array.ext_getElem? fun j => ?_
    rcases Nat.lt_or_ge j n with hj | hj
    · rw [made_zero default hj, List.getElem?_toArray, intC_at (z := 0) (by rw [List.getElem?_replicate, if_pos hj])]
    · have h1 : (madeCells #[(.int .i64 0 : Value)] n).size = n := by simp [madeCells]
      rw [Array.getElem?_eq_none (by omega), Array.getElem?_eq_none (by simp [intC]; omega)]
  unfold zeroRow intRow
  rw [h]
theorem row_ilist {w : World} {F : Nat → Prop} {g n : Nat} {Z : List Int} (h : w.heap[g]? = some (intRow Z)) (hZ : Z.length = n) (hn : n ≤ maxLen) (hF : F g) : IList w F (some ⟨g, 0, none⟩) n n Z := by
  refine .inr ⟨_, rfl, Nat.le_refl _, hn, hZ, e_lt h, hF, fun j z hz => ?_⟩
  have h2 := cell_of_row w g j _ _ _ h
  rw [List.getElem?_toArray, intC_at hz] at h2
  rw [Addr.add_lit, Nat.zero_add]
  exact h2
theorem in_next {z : Int} {L : List Ent} {j : Nat} {e : Ent} (h : L[j]? = some e) (hi : inZ z (L.take j) = true) (he : 0 ≤ e.zone ∧ e.zone < z) : inZ z (L.take (j + 1)) = true := by
  unfold inZ at *
  rw [List.take_add_one, h, List.all_append, hi]
  simp [he.1, he.2]
theorem in_not {z : Int} {L : List Ent} {j : Nat} {e : Ent} (h : L[j]? = some e) (he : ¬ (0 ≤ e.zone ∧ e.zone < z)) : inZ z L = false := by
  cases hi : inZ z L
  · rfl
  · unfold inZ at hi
    have := List.all_eq_true.1 hi e (List.mem_of_getElem? h)
    simp only [Bool.and_eq_true, decide_eq_true_eq] at this
    exact absurd this he
/-- what Of leaves -/
def COfPost (w : World) (z : Int) (L : List Ent) (r : Ending) (w' : World) : Prop :=
  ∃ a n c a2 n2 c2, r = .returned (.tuple #[cntV a n c a2 n2 c2, .bool (ofB z L)]) ∧ CList w' (fun b => w.heap.size ≤ b) a n c a2 n2 c2 (ofC z L) ∧ Below w.heap.size w w'
set_option maxHeartbeats 4000000 in
set_option maxRecDepth 20000 in
theorem refOf_any (F : Nat → Prop) (L : List Ent) (a : Option Addr) (n c : Nat) (s : Int) (w : World) (hl : EList w F a n c L) (hn : n ≤ 1000000) :
    Calls Try.prog 28 #[.int .i64 s, .slice a n c] w (COfPost w s L) := by
  have hA := (Below.refl w.heap.size w).alloc (Nat.le_refl _) (cntRow none 0 0 none 0 0)
  have hr0 := heap_alloc_new w (cntRow none 0 0 none 0 0)
  have hlen := hl.length
  by_cases hs : 1 ≤ s ∧ s ≤ 32
  · obtain ⟨m, rfl⟩ : ∃ m : Nat, s = (m : Int) := ⟨s.toNat, by omega⟩
    have hm1 : 1 ≤ m := by omega
    have hm2 : m ≤ 32 := by omega
    have HN := Lib.hid (fun W => refCNew_some m hm1 hm2 W)
    have HENT := Lib.hid (fun W (h : Below w.heap.size w W) i (hi : i < n) => (hl.on (Same.below h)).ent i hi)
    have HV := Lib.hid (fun i (hi : i ≤ n) => count_valid hm1 hm2 L (by omega) i (by omega))
    have hmx : m ≤ maxLen := by unfold maxLen; omega
    have hcap := hl.cap
    unfold maxLen at hcap
    have hlow : n ≤ 1000000 := hn
    clear hl
    go_enter Try.func28, Try.ntmps28
    generalize hw0 : w.alloc (cntRow none 0 0 none 0 0) = w0 at *
    go_wp2_with (first
      | (go_at_call 42; ((with_reducible refine (HN.out _).mono ?_); rintro r9 w1 ⟨g, g2, k1, k2, k3, rfl, q1, q2, h1⟩; have b1 := hA.trans (h1.mono hA.size); have hr1 := e_on h1 hr0 (e_lt hr0); have k4 := e_lt hr0; clear hr0 hA h1 HN hw0)))
    rw [zero_row] at q1 q2
    have hX := heap_alloc_new w1 (cntRow (some ⟨g, 0, none⟩) m m (some ⟨g2, 0, none⟩) m m)
    have b2 := b1.alloc b1.size (cntRow (some ⟨g, 0, none⟩) m m (some ⟨g2, 0, none⟩) m m)
    have hr2 := e_al hr1 (cntRow (some ⟨g, 0, none⟩) m m (some ⟨g2, 0, none⟩) m m)
    have p1 := e_al q1 (cntRow (some ⟨g, 0, none⟩) m m (some ⟨g2, 0, none⟩) m m)
    have p2 := e_al q2 (cntRow (some ⟨g, 0, none⟩) m m (some ⟨g2, 0, none⟩) m m)
    have k5 := e_lt q1
    have k6 := e_lt q2
    have k7 : w.heap.size < g := by omega
    have k8 : w.heap.size < g2 := by omega
    obtain ⟨X, hXe⟩ : ∃ X, X = w1.heap.size := ⟨_, rfl⟩
    rw [← hXe] at hX k5 k6
    rw [← hXe]
    generalize w1.alloc (cntRow (some ⟨g, 0, none⟩) m m (some ⟨g2, 0, none⟩) m m) = w2 at *
    clear q1 q2 hr1 b1 hXe k1 k2 k4
    go_loopw [8] (fun x wr => ∃ j : Nat, x = .int .i64 (j : Int) ∧ j ≤ n ∧ RowKit.Hid (inZ (m : Int) (L.take j) = true) ∧ wr.heap[w.heap.size]? = some (cntRow none 0 0 none 0 0) ∧ wr.heap[X]? = some (cntRow (some ⟨g, 0, none⟩) m m (some ⟨g2, 0, none⟩) m m) ∧ wr.heap[g]? = some (intRow (countL (List.replicate m 0) (L.take j))) ∧ wr.heap[g2]? = some (intRow (List.replicate m 0)) ∧ Below w.heap.size w wr) (fun x _ => n - (intOf x).toNat)
    case atStart => exact ⟨0, rfl, by omega, Lib.hid rfl, hr2, hX, p1, p2, b2⟩
    case round =>
      clear hr2 hX p1 p2 b2
      obtain ⟨j, rfl, hj, hin, hr, hx, hg, hp, hb⟩ := hrel
      have hCl : (countL (List.replicate m 0) (L.take j)).length = m := by rw [count_len, List.length_replicate]
      by_cases hlt : j < n
      · obtain ⟨x, e, rfl, he, hat⟩ := HENT.out wr hb j hlt
        have hjI : (j : Int) < (n : Int) := by omega
        have hva := HV.out j hj
        have hcx : hasC ⟨countL (List.replicate m 0) (L.take j), List.replicate m 0⟩ e.zone = (decide (0 ≤ e.zone) && decide (e.zone < (m : Int))) := by unfold hasC; rw [hva, Bool.true_and, hCl]
        have HH := Lib.hid (fun W (h : Below wr.drew.heap.size wr.drew W) => refHas_any (fun b => b = g ∨ b = g2) ⟨countL (List.replicate m 0) (L.take j), List.replicate m 0⟩ e.zone (some ⟨g, 0, none⟩) (some ⟨g2, 0, none⟩) m m m m W (CList.on (w := wr.drew) ⟨row_ilist hg hCl hmx (.inl rfl), row_ilist hp (List.length_replicate ..) hmx (.inr rfl)⟩ (Same.below h)))
        rw [hcx] at HH
        clear hcx hva
        have HNEXT := Lib.hid (fun h => in_next he hin.out h)
        have HNOT := Lib.hid (fun h => in_not (z := (m : Int)) he h)
        have HCN := Lib.hid (count_next (l := List.replicate m 0) he)
        have HB := Lib.hid (count_bound m L j (by omega))
        clear he
        obtain ⟨b, k, v, mv, z, o⟩ := e
        try simp only at hat HH HNEXT HNOT HCN
        generalize countL (List.replicate m 0) (L.take j) = Z at *
        by_cases hz : 0 ≤ z ∧ z < (m : Int)
        · obtain ⟨q, rfl⟩ : ∃ q : Nat, z = (q : Int) := ⟨z.toNat, by omega⟩
          have HI := Lib.hid (HNEXT.out hz)
          have hq : q < m := by omega
          have hqI : (q : Int) < (m : Int) := hz.2
          rw [show (decide (0 ≤ (q : Int)) && decide ((q : Int) < (m : Int))) = true from by simp; omega] at HH
          clear HNEXT HNOT hz
          go_wp2_with fail
          refine Plan.start (fun W => EntAt W x j ⟨b, k, v, mv, (q : Int), o⟩ ∧ W.cell? ⟨X, 0, none⟩ = some (.slice (some ⟨g, 0, none⟩) m m) ∧ W.cell? ⟨X, 1, none⟩ = some (.slice (some ⟨g2, 0, none⟩) m m)) [(0, true), (1, true), (2, true), (3, true), (4, true), (5, true), (6, true), (7, false), (8, true)] (by kernel_rfl) (by kernel_rfl) (by kernel_rfl) (by kernel_rfl) ⟨hat, two_row hx⟩ ?_
          simp only [List.map_cons, List.map_nil, List.getElem?_toArray, List.getElem?_cons_zero, List.getElem?_cons_succ]
          repeat (first | (refine Plan.take ?_ (by rfl) ?_ ?_; rotate_left; (· rintro w9 ⟨⟨u0, u1, u2, u3, u4, u5⟩, c0, c1⟩; go_simp; (try rw [if_neg (by omega)]); all_goals (with_reducible rfl)); simp only [Act.put, List.setIfInBounds_toArray, List.set_cons_zero, List.set_cons_succ]) | (refine Plan.pass (by rfl) ?_; simp only [Act.put, List.setIfInBounds_toArray, List.set_cons_zero, List.set_cons_succ]))
          refine Plan.call (by rfl) 39 _ ?_ (HH.out _ (Below.refl _ _)) ?_
          · go_simp
          rintro e9 v1 ⟨rfl, h9⟩
          have b9 := hb.drew.trans (h9.mono hb.size)
          have hr9 := e_on h9 (show wr.drew.heap[w.heap.size]? = _ from hr) (e_lt hr)
          have hx9 := e_on h9 (show wr.drew.heap[X]? = _ from hx) (e_lt hx)
          have hg9 := e_on h9 (show wr.drew.heap[g]? = _ from hg) (e_lt hg)
          have hp9 := e_on h9 (show wr.drew.heap[g2]? = _ from hp) (e_lt hp)
          have hat9 := EntAt.kept (w := wr.drew) hat h9 hat.lt
          refine ⟨_, rfl, ⟨hat9, two_row hx9⟩, ?_⟩
          simp only [Act.put, List.setIfInBounds_toArray, List.set_cons_zero, List.set_cons_succ]
          repeat (first | (refine Plan.take ?_ (by rfl) ?_ ?_; rotate_left; (· rintro w9 ⟨⟨u0, u1, u2, u3, u4, u5⟩, c0, c1⟩; go_simp; (try rw [if_neg (by omega)]); all_goals (with_reducible rfl)); simp only [Act.put, List.setIfInBounds_toArray, List.set_cons_zero, List.set_cons_succ]) | (refine Plan.pass (by rfl) ?_; simp only [Act.put, List.setIfInBounds_toArray, List.set_cons_zero, List.set_cons_succ]))
          refine Plan.ends ?_
          clear hat hr hx hg hp hb h9
          obtain ⟨y, hy⟩ : ∃ y, Z[q]? = some y := ⟨_, List.getElem?_eq_getElem (by omega)⟩
          have hyb := HB.out y (List.mem_of_getElem? hy)
          have HP := Lib.hid (plus_is hy 1)
          have hgc : v1.drew.cell? ⟨g, q, none⟩ = some (.int .i64 y) := by
            have h2 := cell_of_row v1.drew g q _ _ _ (show v1.drew.heap[g]? = _ from hg9)
            rw [List.getElem?_toArray, intC_at hy] at h2
            exact h2
          have hwr : IntKind.i64.wrap (y + 1) = y + 1 := IntWalk.i64_in _ (by omega)
          have hwr2 : wrap64 (y + 1) = y + 1 := by unfold wrap64; omega
          clear hy HB
          go_wp2_with fail
          refine Last.start (fun W => EntAt W x j ⟨b, k, v, mv, (q : Int), o⟩ ∧ W.cell? ⟨X, 0, none⟩ = some (.slice (some ⟨g, 0, none⟩) m m) ∧ W.cell? ⟨g, q, none⟩ = some (.int .i64 y)) [(0, true), (1, true), (2, true), (3, true), (4, true), (5, true), (6, true), (7, true), (8, true), (9, true), (10, true), (11, true), (12, false)] (by kernel_rfl) (by kernel_rfl) (by kernel_rfl) (by kernel_rfl) ⟨hat9, (two_row hx9).1, hgc⟩ ?_
          simp only [List.map_cons, List.map_nil, List.getElem?_toArray, List.getElem?_cons_zero, List.getElem?_cons_succ]
          repeat (first | (refine Last.take ?_ (by rfl) ?_ ?_; rotate_left; (· rintro w9 ⟨⟨u0, u1, u2, u3, u4, u5⟩, c0, c1⟩; go_simp; (try rw [if_neg (by omega)]); all_goals (with_reducible rfl)); simp only [Act.put, List.setIfInBounds_toArray, List.set_cons_zero, List.set_cons_succ]) | (refine Last.pass (by rfl) ?_; simp only [Act.put, List.setIfInBounds_toArray, List.set_cons_zero, List.set_cons_succ]))
          refine Last.last (by rfl) ?_
          have hgd : v1.drew.heap[g]? = some (intRow Z) := hg9
          refine Put.wp_store_int 3 (.tmp 44) (.tmp 43) rfl g q .i64 (y + 1) rfl rfl ⟨_, hgc⟩ (free_row_c hgd) Put.int_info1 ?_
          rw [setCell_eq_setRow _ _ _ _ _ _ _ hgd]
          have e9 : (intC Z).toArray.setIfInBounds q (.int .i64 (y + 1)) = (intC (plusL Z q 1)).toArray := by rw [List.setIfInBounds_toArray, intC_set, HP.out]
          rw [e9]
          have r3 := (setRow_other v1.drew g w.heap.size (intC (plusL Z q 1)).toArray (by omega)).trans hr9
          have x3 := (setRow_other v1.drew g X (intC (plusL Z q 1)).toArray (by omega)).trans hx9
          have p3 := (setRow_other v1.drew g g2 (intC (plusL Z q 1)).toArray (Ne.symm k3)).trans hp9
          have g3 := setRow_heap v1.drew g _ (intC (plusL Z q 1)).toArray _ _ hgd
          have b3 := below_setRow b9.drew (show w.heap.size ≤ g by omega) (intC (plusL Z q 1)).toArray
          generalize v1.drew.setRow g (intC (plusL Z q 1)).toArray = v2 at *
          clear hgc hgd e9 hg9 hr9 hx9 hp9 b9 hat9 HP hwr hwr2 HH
          simp only [Act.put]
          go_wp2_with fail
          go_roundw
          case rel => exact ⟨j + 1, by go_num, by omega, HI, r3, x3, by rw [HCN.out, Int.toNat_natCast]; exact g3, p3, b3⟩
          case measure => simp [intOf]; omega
        · have HR := Lib.hid (HNOT.out hz)
          rw [show (decide (0 ≤ z) && decide (z < (m : Int))) = false from by simp; omega] at HH
          clear HNEXT HNOT hz HB HCN
          go_wp2_with fail
          refine Plan.start (fun W => EntAt W x j ⟨b, k, v, mv, z, o⟩ ∧ W.cell? ⟨X, 0, none⟩ = some (.slice (some ⟨g, 0, none⟩) m m) ∧ W.cell? ⟨X, 1, none⟩ = some (.slice (some ⟨g2, 0, none⟩) m m)) [(0, true), (1, true), (2, true), (3, true), (4, true), (5, true), (6, true), (7, false), (8, true)] (by kernel_rfl) (by kernel_rfl) (by kernel_rfl) (by kernel_rfl) ⟨hat, two_row hx⟩ ?_
          simp only [List.map_cons, List.map_nil, List.getElem?_toArray, List.getElem?_cons_zero, List.getElem?_cons_succ]
          repeat (first | (refine Plan.take ?_ (by rfl) ?_ ?_; rotate_left; (· rintro w9 ⟨⟨u0, u1, u2, u3, u4, u5⟩, c0, c1⟩; go_simp; (try rw [if_neg (by omega)]); all_goals (with_reducible rfl)); simp only [Act.put, List.setIfInBounds_toArray, List.set_cons_zero, List.set_cons_succ]) | (refine Plan.pass (by rfl) ?_; simp only [Act.put, List.setIfInBounds_toArray, List.set_cons_zero, List.set_cons_succ]))
          refine Plan.call (by rfl) 39 _ ?_ (HH.out _ (Below.refl _ _)) ?_
          · go_simp
          rintro e9 v1 ⟨rfl, h9⟩
          have b9 := hb.drew.trans (h9.mono hb.size)
          have hr9 := e_on h9 (show wr.drew.heap[w.heap.size]? = _ from hr) (e_lt hr)
          have hx9 := e_on h9 (show wr.drew.heap[X]? = _ from hx) (e_lt hx)
          have hg9 := e_on h9 (show wr.drew.heap[g]? = _ from hg) (e_lt hg)
          have hp9 := e_on h9 (show wr.drew.heap[g2]? = _ from hp) (e_lt hp)
          have hat9 := EntAt.kept (w := wr.drew) hat h9 hat.lt
          refine ⟨_, rfl, ⟨hat9, two_row hx9⟩, ?_⟩
          simp only [Act.put, List.setIfInBounds_toArray, List.set_cons_zero, List.set_cons_succ]
          repeat (first | (refine Plan.take ?_ (by rfl) ?_ ?_; rotate_left; (· rintro w9 ⟨⟨u0, u1, u2, u3, u4, u5⟩, c0, c1⟩; go_simp; (try rw [if_neg (by omega)]); all_goals (with_reducible rfl)); simp only [Act.put, List.setIfInBounds_toArray, List.set_cons_zero, List.set_cons_succ]) | (refine Plan.pass (by rfl) ?_; simp only [Act.put, List.setIfInBounds_toArray, List.set_cons_zero, List.set_cons_succ]))
          refine Plan.ends ?_
          clear hat hr hx hg hp hb h9
          go_wp2_with (first
            | ((with_reducible refine Plan.store_lit 24 (.tmp 4) _ (w.heap.size) ?_ hr9 ?_ ?_ ?_ ?_ ?_ ?_); rotate_left; (· rfl); (· rfl); (· exact cnt_info); (· rfl); (· simp [Value.oneCell']); simp only [Act.put]))
          have hB : ofB (m : Int) L = false := by unfold ofB; rw [HR.out, Bool.and_false]
          have hC : ofC (m : Int) L = ⟨[], []⟩ := by unfold ofC; rw [hB]; rfl
          exact bodyPost_ret (Plan.results_cell_tmp (p := 4) (q := 5) rfl _ _ _ _ _ _ _ rfl (setRow_heap _ _ _ _ _ _ hr9) Try.underlying24 rfl cnt_info) rfl ⟨_, _, _, _, _, _, by rw [hB]; rfl, by rw [hC]; exact ⟨IList.nil _ _, IList.nil _ _⟩, below_setRow b9 (Nat.le_refl _) _⟩
      · obtain rfl : j = n := by omega
        have hB : ofB (m : Int) L = true := by
          have h1 := hin.out
          rw [List.take_of_length_le (by omega)] at h1
          unfold ofB
          rw [h1]
          simp
          omega
        have hC : ofC (m : Int) L = ⟨countL (List.replicate m 0) (L.take j), List.replicate m 0⟩ := by unfold ofC; rw [hB, List.take_of_length_le (by omega)]; rfl
        have HBC := Lib.hid (And.intro hB hC)
        clear hB hC HV HENT hin
        have hrI : ¬ (j : Int) < (j : Int) := by omega
        generalize countL (List.replicate m 0) (L.take j) = Z at *
        go_wp2_with (first
          | ((with_reducible refine Plan.load_lit 24 (.tmp 6) X ?_ hx Try.underlying24 ?_ ?_ ?_); (· rfl); (· rfl); (· exact cnt_info); simp only [Act.put, List.setIfInBounds_toArray, List.set_cons_zero, List.set_cons_succ])
          | ((with_reducible refine Plan.store_lit 24 (.tmp 4) _ (w.heap.size) ?_ hr ?_ ?_ ?_ ?_ ?_ ?_); rotate_left; (· rfl); (· rfl); (· exact cnt_info); (· rfl); (· simp [Value.oneCell']); simp only [Act.put]))
        have g3 := (setRow_other wr w.heap.size g #[.slice (some ⟨g, 0, none⟩) m m, .slice (some ⟨g2, 0, none⟩) m m] (by omega)).trans hg
        have p3 := (setRow_other wr w.heap.size g2 #[.slice (some ⟨g, 0, none⟩) m m, .slice (some ⟨g2, 0, none⟩) m m] (by omega)).trans hp
        exact bodyPost_ret (Plan.results_cell_tmp (p := 4) (q := 5) rfl _ _ _ _ _ _ _ rfl (setRow_heap _ _ _ _ _ _ hr) Try.underlying24 rfl cnt_info) rfl ⟨_, _, _, _, _, _, by rw [HBC.out.1]; rfl, by rw [HBC.out.2]; exact ⟨row_ilist g3 hCl hmx (by omega), row_ilist p3 (List.length_replicate ..) hmx (by omega)⟩, below_setRow hb (Nat.le_refl _) _⟩
  · have h1 : newCE s = 1 := if_neg hs
    have HN := Lib.hid (fun W => refCNew_any s W)
    have h2 : ofB s L = false := by unfold ofB; simp; omega
    have h3 : ofC s L = ⟨[], []⟩ := by unfold ofC; rw [h2]; rfl
    unfold COfPost
    rw [h2, h3]
    clear h2 h3 hl
    unfold CNewPost at HN
    rw [h1] at HN
    clear h1
    go_enter Try.func28, Try.ntmps28
    generalize hw0 : w.alloc (cntRow none 0 0 none 0 0) = w0 at *
    go_wp2_with (first
      | (go_at_call 42; ((with_reducible refine (HN.out _).mono ?_); rintro r9 w1 ⟨x1, x2, x3, x4, x5, x6, rfl, _, h1⟩; have b1 := hA.trans (h1.mono hA.size); have hr1 := e_on h1 hr0 (e_lt hr0)))
      | ((with_reducible refine Plan.store_lit 24 (.tmp 4) _ (w.heap.size) ?_ (e_al hr1 _) ?_ ?_ ?_ ?_ ?_ ?_); rotate_left; (· rfl); (· rfl); (· exact cnt_info); (· rfl); (· simp [Value.oneCell']); simp only [Act.put]))
    exact bodyPost_ret (Plan.results_cell_tmp (p := 4) (q := 5) rfl _ _ _ _ _ _ _ rfl (setRow_heap _ _ _ _ _ _ (e_al hr1 _)) Try.underlying24 rfl cnt_info) rfl ⟨_, _, _, _, _, _, rfl, ⟨IList.nil _ _, IList.nil _ _⟩, below_setRow (b1.alloc b1.size _) (Nat.le_refl _) _⟩
end Go.Proofs.Ytigmjpkhpoolkaa.Ents
