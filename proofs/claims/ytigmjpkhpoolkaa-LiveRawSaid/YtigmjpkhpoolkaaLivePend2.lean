
/- The walks of the program's pend, Begin, End of counters. -/
import Derived.Test.YtigmjpkhpoolkaaLivePend
import Derived.Test.YtigmjpkhpoolkaaCntPend
namespace Go.Proofs.Ytigmjpkhpoolkaa.Ents
open Go.RowKit Plan EntMath CntMath
theorem Own.row {w : World} {B sz g n cap X : Nat} {t : TypeId} {L : List Value} (h : w.ownsRow B t sz (.slice (some ⟨g, 0, none⟩) n cap) n L) (cs : Array Value) (hX : X ≠ g) : (w.setRow X cs).ownsRow B t sz (.slice (some ⟨g, 0, none⟩) n cap) n L := by
  obtain ⟨h1, h2⟩ := h
  refine ⟨h1, ?_⟩
  rcases h2 with h3 | ⟨g', cap', cur, hv, hb, hg, h4⟩
  · exact .inl h3
  · cases hv
    exact .inr ⟨g, cap, cur, rfl, hb, (setRow_other w X g cs (Ne.symm hX)).trans hg, h4⟩
theorem pend_list {w : World} {F : Nat → Prop} {B A : Nat} {a : Option Addr} {n c g k : Nat} {Z K : List Int} (h : IList w (fun b => F b ∧ b < A) a n c Z) (ho : w.ownsRow B 3 1 (.slice (some ⟨g, 0, none⟩) n k) n (intC K)) (hg : A + 1 < g) : CList w (fun b => (F b ∧ b < A) ∨ A + 1 < b) a n c (some ⟨g, 0, none⟩) n k ⟨Z, K⟩ := by
  obtain ⟨a9, c9, e9, l9⟩ := own_ilist (F := fun b => (F b ∧ b < A) ∨ A + 1 < b) ho (fun b h9 => .inr (by have h8 := Option.some.inj (show some g = some b from h9); omega))
  cases e9
  exact ⟨h.mono fun _ _ h => .inl h, l9⟩
/-- what a number added to Pending of a zone makes of counters -/
def pendB (C : Cnt) (z k : Int) : Bool := hasC C z && okN (C.pend.getD z.toNat 0 + k)
def pendC (C : Cnt) (z k : Int) : Cnt := if pendB C z k = true then ⟨C.live, plusL C.pend z.toNat k⟩ else C
theorem begin_pend (C : Cnt) (z : Int) : beginB C z = pendB C z 1 ∧ beginC C z = pendC C z 1 := by
  have h : beginB C z = pendB C z 1 := by
    unfold beginB pendB
    cases hh : hasC C z
    · rfl
    · have hb := getD_ok (valid_c.1 (has_c.1 hh).1).2.2 z.toNat
      generalize C.pend.getD z.toNat 0 = p at *
      rw [Bool.true_and, Bool.true_and, okN, ← Bool.decide_and]
      exact decide_eq_decide.2 (by omega)
  refine ⟨h, ?_⟩
  unfold beginC pendC
  rw [h]
theorem end_pend (C : Cnt) (z : Int) : endB C z = pendB C z (-1) ∧ endC C z = pendC C z (-1) := by
  have h : endB C z = pendB C z (-1) := by
    unfold endB pendB
    cases hh : hasC C z
    · rfl
    · have hb := getD_ok (valid_c.1 (has_c.1 hh).1).2.2 z.toNat
      generalize C.pend.getD z.toNat 0 = p at *
      rw [Bool.true_and, Bool.true_and, okN, ← Bool.decide_and]
      exact decide_eq_decide.2 (by omega)
  refine ⟨h, ?_⟩
  unfold endC pendC
  rw [h]
theorem pend_no {C : Cnt} {z k : Int} (h : hasC C z = false) : pendC C z k = C ∧ pendB C z k = false := by
  have h1 : pendB C z k = false := by unfold pendB; rw [h]; rfl
  exact ⟨by unfold pendC; rw [h1]; rfl, h1⟩
theorem pend_is {C : Cnt} {q : Nat} {k p : Int} (h : hasC C (q : Int) = true) (hp : C.pend[q]? = some p) : pendB C (q : Int) k = okN (p + k) ∧ pendC C (q : Int) k = (if okN (p + k) = true then ⟨C.live, plusL C.pend q k⟩ else C) ∧ validC ⟨C.live, plusL C.pend q k⟩ = okN (p + k) := by
  have h1 : pendB C (q : Int) k = okN (p + k) := by unfold pendB; rw [h, Int.toNat_natCast, getD_at hp]; rfl
  refine ⟨h1, by unfold pendC; rw [h1]; rfl, ?_⟩
  have hv := valid_c.1 (has_c.1 h).1
  have hl : (plusL C.pend q k).length = C.pend.length := plus_len _ _ _
  have hq := (List.getElem?_eq_some_iff.1 hp).1
  cases ho : okN (p + k)
  · cases hx : validC ⟨C.live, plusL C.pend q k⟩
    · rfl
    · have h2 := (valid_c.1 hx).2.2 (p + k) (by rw [plus_is hp]; exact List.mem_set hq _)
      rw [ok_n.2 h2] at ho
      cases ho
  · refine valid_c.2 ⟨⟨by rw [hl]; exact hv.1.1, hv.1.2⟩, hv.2.1, fun z hz => ?_⟩
    rw [plus_is hp] at hz
    rcases List.mem_or_eq_of_mem_set hz with h3 | h3
    · exact hv.2.2 z h3
    · rw [h3]; exact ok_n.1 ho
set_option maxHeartbeats 4000000 in
set_option maxRecDepth 20000 in
theorem pend_any (F : Nat → Prop) (C : Cnt) (z kk : Int) (a a2 : Option Addr) (n c n2 c2 : Nat) (w : World) (hl : CList w F a n c a2 n2 c2 C) (hk : -1 ≤ kk ∧ kk ≤ 1) :
    Calls Try.prog 38 #[cntV a n c a2 n2 c2, .int .i64 z, .int .i64 kk] w (CntPost w F (pendC C z kk) (pendB C z kk)) := by
  have hA := ((Below.refl w.heap.size w).alloc (Nat.le_refl _) (cntRow a n c a2 n2 c2)).alloc (by simp) (cntRow none 0 0 none 0 0)
  have hx0 := heap_first w (cntRow a n c a2 n2 c2) (cntRow none 0 0 none 0 0)
  have hr0 := heap_second w (cntRow a n c a2 n2 c2) (cntRow none 0 0 none 0 0)
  have HV := Lib.hid (fun W (h : Below w.heap.size w W) => lvalid_any _ C a a2 n c n2 c2 W (hl.same h))
  have HZ := Lib.hid (fun W => isZone_any z a a2 n c n2 c2 W)
  have HEND := Lib.hid (fun W (h : Below w.heap.size w W) (cs : Array Value) => (show CList (W.setRow (w.heap.size + 1) cs) (Plus F w.heap.size) a n c a2 n2 c2 C from
    ((hl.cut.on (Same.below (w' := W) h)).on (Same.row (r := w.heap.size + 1) (fun h9 => by have := h9.2; omega) cs)).mono (fun b _ h => .inl h.1)))
  cases hva : validC C
  · have hh : hasC C z = false := by unfold hasC; rw [hva]; rfl
    obtain ⟨r1, r2⟩ := pend_no (k := kk) hh
    rw [r1, r2]
    rw [hva] at HV
    clear r1 r2 hl hh hva HZ
    go_enter Try.func38, Try.ntmps38
    generalize hw0 : (w.alloc (cntRow a n c a2 n2 c2)).alloc (cntRow none 0 0 none 0 0) = w0 at *
    go_wp2_with (first
      | ((with_reducible refine Plan.load_lit 24 (.tmp 3) w.heap.size ?_ hx0 Try.underlying24 ?_ ?_ ?_); (· rfl); (· rfl); (· exact cnt_info); simp only [Act.put, List.setIfInBounds_toArray, List.set_cons_zero, List.set_cons_succ])
      | (go_at_call 22; ((with_reducible refine (HV.out _ hA).mono ?_); rintro r9 w1 ⟨rfl, h1⟩; have b1 := hA.trans (h1.mono hA.size); have hx1 := e_on h1 hx0 (e_lt hx0); have hr1 := e_on h1 hr0 (e_lt hr0); clear hx0))
      | ((with_reducible refine Plan.load_lit 24 (.tmp 3) w.heap.size ?_ hx1 Try.underlying24 ?_ ?_ ?_); (· rfl); (· rfl); (· exact cnt_info); simp only [Act.put, List.setIfInBounds_toArray, List.set_cons_zero, List.set_cons_succ])
      | ((with_reducible refine Plan.store_lit 24 (.tmp 6) _ (w.heap.size + 1) ?_ hr1 ?_ ?_ ?_ ?_ ?_ ?_); rotate_left; (· rfl); (· rfl); (· exact cnt_info); (· rfl); (· simp [Value.oneCell']); simp only [Act.put]))
    exact bodyPost_ret (Plan.results_cell_tmp (p := 6) (q := 7) rfl _ _ _ _ _ _ _ rfl (setRow_heap _ _ _ _ _ _ hr1) Try.underlying24 rfl cnt_info) rfl ⟨_, _, _, _, _, _, rfl, HEND.out _ b1 _, below_setRow b1 (show w.heap.size ≤ w.heap.size + 1 by omega) _⟩
  · cases hh : hasC C z
    · have hz : decide (0 ≤ z ∧ z < (n : Int)) = false := by
        cases hd : decide (0 ≤ z ∧ z < (n : Int))
        · rfl
        · have h1 := of_decide_eq_true hd
          have h2 := hl.l.length
          rw [has_c.2 ⟨hva, h1.1, by omega⟩] at hh
          cases hh
      obtain ⟨r1, r2⟩ := pend_no (k := kk) hh
      rw [r1, r2]
      rw [hva] at HV
      rw [hz] at HZ
      clear r1 r2 hl hh hva hz
      go_enter Try.func38, Try.ntmps38
      generalize hw0 : (w.alloc (cntRow a n c a2 n2 c2)).alloc (cntRow none 0 0 none 0 0) = w0 at *
      go_wp2_with (first
        | ((with_reducible refine Plan.load_lit 24 (.tmp 3) w.heap.size ?_ hx0 Try.underlying24 ?_ ?_ ?_); (· rfl); (· rfl); (· exact cnt_info); simp only [Act.put, List.setIfInBounds_toArray, List.set_cons_zero, List.set_cons_succ])
        | (go_at_call 22; ((with_reducible refine (HV.out _ hA).mono ?_); rintro r9 w1 ⟨rfl, h1⟩; have b1 := hA.trans (h1.mono hA.size); have hx1 := e_on h1 hx0 (e_lt hx0); have hr1 := e_on h1 hr0 (e_lt hr0); clear hx0))
        | ((with_reducible refine load_lit_gc 24 (.tmp 3) w.heap.size ?_ ?_ hx1 Try.underlying24 ?_ ?_ ?_); (· rfl); (· rfl); (· rfl); (· exact cnt_info); simp only [Act.put, List.setIfInBounds_toArray, List.set_cons_zero, List.set_cons_succ])
        | (go_at_call 32; ((with_reducible refine (HZ.out _).mono ?_); rintro r9 w2 ⟨rfl, h2⟩; have b2 := b1.trans (h2.mono b1.size); have hx2 := e_on h2 hx1 (e_lt hx1); have hr2 := e_on h2 hr1 (e_lt hr1); clear hx1))
        | ((with_reducible refine Plan.load_lit 24 (.tmp 3) w.heap.size ?_ hx2 Try.underlying24 ?_ ?_ ?_); (· rfl); (· rfl); (· exact cnt_info); simp only [Act.put, List.setIfInBounds_toArray, List.set_cons_zero, List.set_cons_succ])
        | ((with_reducible refine Plan.store_lit 24 (.tmp 6) _ (w.heap.size + 1) ?_ hr2 ?_ ?_ ?_ ?_ ?_ ?_); rotate_left; (· rfl); (· rfl); (· exact cnt_info); (· rfl); (· simp [Value.oneCell']); simp only [Act.put]))
      exact bodyPost_ret (Plan.results_cell_tmp (p := 6) (q := 7) rfl _ _ _ _ _ _ _ rfl (setRow_heap _ _ _ _ _ _ hr2) Try.underlying24 rfl cnt_info) rfl ⟨_, _, _, _, _, _, rfl, HEND.out _ b2 _, below_setRow b2 (show w.heap.size ≤ w.heap.size + 1 by omega) _⟩
    · obtain ⟨k, rfl, rfl, hk2, hn32, x, q, x2, p, rfl, rfl, hq, hp, bq, bp, hcx, hcp⟩ := has_at hl hh
      obtain ⟨r1, r2, r3⟩ := pend_is (k := kk) hh hp
      rw [hva] at HV
      have hkI : (k : Int) < (n : Int) := by omega
      rw [decide_eq_true (show 0 ≤ (k : Int) ∧ (k : Int) < (n : Int) by omega)] at HZ
      have HCL := Lib.hid (fun W (h : Below w.heap.size w W) => iclone_any _ C.pend x2 n c2 W (hl.p.same h) (by omega) (by omega))
      have HLV := Lib.hid (fun W (h : Below w.heap.size w W) => (show IList W (fun b => F b ∧ b < w.heap.size) (some x) n c C.live from hl.l.cut.on (Same.below h)))
      have HPL := Lib.hid (plus_is hp kk)
      have hwr : IntKind.i64.wrap (p + kk) = p + kk := IntWalk.i64_in _ (by omega)
      have hwr2 : wrap64 (p + kk) = p + kk := by unfold wrap64; omega
      have HPp := Lib.hid hp
      rw [r1, r2]
      clear r1 r2 hh hcx hcp hva hp hq hl
      obtain ⟨V, hV⟩ : ∃ V, okN (p + kk) = V := ⟨_, rfl⟩
      rw [hV] at r3
      rw [hV]
      have HR3 := Lib.hid r3
      clear r3 hV
      cases V
      · go_enter Try.func38, Try.ntmps38
        generalize hw0 : (w.alloc (cntRow (some x) n c (some x2) n c2)).alloc (cntRow none 0 0 none 0 0) = w0 at *
        go_wp2_with (first
          | ((with_reducible refine Plan.load_lit 24 (.tmp 3) w.heap.size ?_ hx0 Try.underlying24 ?_ ?_ ?_); (· rfl); (· rfl); (· exact cnt_info); simp only [Act.put, List.setIfInBounds_toArray, List.set_cons_zero, List.set_cons_succ])
          | (go_at_call 22; ((with_reducible refine (HV.out _ hA).mono ?_); rintro r9 w1 ⟨rfl, h1⟩; have b1 := hA.trans (h1.mono hA.size); have hx1 := e_on h1 hx0 (e_lt hx0); have hr1 := e_on h1 hr0 (e_lt hr0); clear hx0 hr0 hA HV hw0))
          | ((with_reducible refine load_lit_gc 24 (.tmp 3) w.heap.size ?_ ?_ hx1 Try.underlying24 ?_ ?_ ?_); (· rfl); (· rfl); (· rfl); (· exact cnt_info); simp only [Act.put, List.setIfInBounds_toArray, List.set_cons_zero, List.set_cons_succ])
          | (go_at_call 32; ((with_reducible refine (HZ.out _).mono ?_); rintro r9 w2 ⟨rfl, h2⟩; have b2 := b1.trans (h2.mono b1.size); have hx2 := e_on h2 hx1 (e_lt hx1); have hr2 := e_on h2 hr1 (e_lt hr1); have hd2 := two_row (e_al hx2 (cntRow (some x) n c (some x2) n c2)); obtain ⟨d20, d21⟩ := hd2; clear hx1 hr1 b1 h1 h2 HZ))
          | ((with_reducible refine Plan.load_lit 24 (.tmp 3) w.heap.size ?_ hx2 Try.underlying24 ?_ ?_ ?_); (· rfl); (· rfl); (· exact cnt_info); simp only [Act.put, List.setIfInBounds_toArray, List.set_cons_zero, List.set_cons_succ])
          | (go_at_call 33; ((with_reducible refine (HCL.out _ (b2.alloc b2.size (cntRow (some x) n c (some x2) n c2))).mono ?_); rintro r9 w3 ⟨g, k3, rfl, hg, hgl, own, h3⟩; have b3 := (b2.alloc b2.size (cntRow (some x) n c (some x2) n c2)).trans (h3.mono (b2.alloc b2.size _).size); have hX3 := e_on h3 (heap_alloc_new w2 (cntRow (some x) n c (some x2) n c2)) (by simp); have hx3 := e_on h3 (e_al hx2 _) (e_lt (e_al hx2 _)); have hr3 := e_on h3 (e_al hr2 _) (e_lt (e_al hr2 _)); have hz2 := e_lt hr2; have hgX : w2.heap.size < g := (by rw [World.size_alloc] at hg; omega); have q1 := b2.size; clear d20 d21 hx2 hr2 h3 b2 HCL hg; generalize w2.heap.size = X at *))
          | ((with_reducible refine store_slice_c 22 (.tmp 23) (.tmp 22) X 1 (some ⟨g, 0, none⟩) n k3 ?_ ?_ ⟨_, (two_row hX3).2⟩ (free_row_c hX3) ints_info1 ?_); (· rfl); (· rfl); simp only [Act.put]; rw [setCell_eq_setRow _ _ _ _ _ _ _ hX3]; simp only [List.setIfInBounds_toArray, List.set_cons_zero, List.set_cons_succ]; have hx4 := (setRow_other w3 X w.heap.size #[.slice (some x) n c, .slice (some ⟨g, 0, none⟩) n k3] (by omega)).trans hx3; have hr4 := (setRow_other w3 X (w.heap.size + 1) #[.slice (some x) n c, .slice (some ⟨g, 0, none⟩) n k3] (by omega)).trans hr3; have b4 := below_setRow b3 (show w.heap.size ≤ X by omega) #[.slice (some x) n c, .slice (some ⟨g, 0, none⟩) n k3]; have hX4 := setRow_heap w3 X _ #[.slice (some x) n c, .slice (some ⟨g, 0, none⟩) n k3] _ _ hX3; have own4 := Own.row own #[.slice (some x) n c, .slice (some ⟨g, 0, none⟩) n k3] (show X ≠ g by omega); obtain ⟨e0, e1⟩ := two_row hX4; have hC4 := int_own_cell own4 HPp.out; obtain ⟨f0, f1⟩ := hC4; clear hx3 hr3 b3 hX3 own; generalize w3.setRow X #[.slice (some x) n c, .slice (some ⟨g, 0, none⟩) n k3] = w4 at *; have own5 := e_owns_cell own4 k (.int .i64 (p + kk)); have hx5 := (Below.heap_setCell w4 ⟨g, k, none⟩ (.int .i64 (p + kk)) w.heap.size (by simp; omega)).trans hx4; have hr5 := (Below.heap_setCell w4 ⟨g, k, none⟩ (.int .i64 (p + kk)) (w.heap.size + 1) (by simp; omega)).trans hr4; have hX5 := (Below.heap_setCell w4 ⟨g, k, none⟩ (.int .i64 (p + kk)) X (by simp; omega)).trans hX4; have b5 := b4.setCell (show w.heap.size ≤ (⟨g, k, none⟩ : Addr).block from (by simp; omega)) (.int .i64 (p + kk)); rw [intC_set, ← HPL.out] at own5; have D5 := pend_list (HLV.out _ b5) own5 (show w.heap.size + 1 < g by omega))
          | ((with_reducible refine Plan.load_lit 24 (.tmp 8) X ?_ hX5 Try.underlying24 ?_ ?_ ?_); (· rfl); (· rfl); (· exact cnt_info); simp only [Act.put, List.setIfInBounds_toArray, List.set_cons_zero, List.set_cons_succ])
          | ((with_reducible refine Plan.load_lit 24 (.tmp 3) w.heap.size ?_ hx5 Try.underlying24 ?_ ?_ ?_); (· rfl); (· rfl); (· exact cnt_info); simp only [Act.put, List.setIfInBounds_toArray, List.set_cons_zero, List.set_cons_succ])
          | (go_at_call 34; ((with_reducible refine (ifValid_no _ _ _ _ _ _ _ _ _ _ _ _ _ _ _ D5 HR3.out).mono ?_); rintro r9 w6 ⟨rfl, h6⟩; have b6 := b5.trans (h6.mono b5.size); have hr6 := e_on h6 hr5 (e_lt hr5); have D6 := D5.on (Same.below h6); clear D5))
          | ((with_reducible refine Plan.store_lit 24 (.tmp 6) _ (w.heap.size + 1) ?_ hr6 ?_ ?_ ?_ ?_ ?_ ?_); rotate_left; (· rfl); (· rfl); (· exact cnt_info); (· rfl); (· simp [Value.oneCell']); simp only [Act.put]))
        exact bodyPost_ret (Plan.results_cell_tmp (p := 6) (q := 7) rfl _ _ _ _ _ _ _ rfl (setRow_heap _ _ _ _ _ _ hr6) Try.underlying24 rfl cnt_info) rfl ⟨_, _, _, _, _, _, rfl, HEND.out _ b6 _, below_setRow b6 (show w.heap.size ≤ w.heap.size + 1 by omega) _⟩
      · go_enter Try.func38, Try.ntmps38
        generalize hw0 : (w.alloc (cntRow (some x) n c (some x2) n c2)).alloc (cntRow none 0 0 none 0 0) = w0 at *
        go_wp2_with (first
          | ((with_reducible refine Plan.load_lit 24 (.tmp 3) w.heap.size ?_ hx0 Try.underlying24 ?_ ?_ ?_); (· rfl); (· rfl); (· exact cnt_info); simp only [Act.put, List.setIfInBounds_toArray, List.set_cons_zero, List.set_cons_succ])
          | (go_at_call 22; ((with_reducible refine (HV.out _ hA).mono ?_); rintro r9 w1 ⟨rfl, h1⟩; have b1 := hA.trans (h1.mono hA.size); have hx1 := e_on h1 hx0 (e_lt hx0); have hr1 := e_on h1 hr0 (e_lt hr0); clear hx0 hr0 hA HV hw0))
          | ((with_reducible refine load_lit_gc 24 (.tmp 3) w.heap.size ?_ ?_ hx1 Try.underlying24 ?_ ?_ ?_); (· rfl); (· rfl); (· rfl); (· exact cnt_info); simp only [Act.put, List.setIfInBounds_toArray, List.set_cons_zero, List.set_cons_succ])
          | (go_at_call 32; ((with_reducible refine (HZ.out _).mono ?_); rintro r9 w2 ⟨rfl, h2⟩; have b2 := b1.trans (h2.mono b1.size); have hx2 := e_on h2 hx1 (e_lt hx1); have hr2 := e_on h2 hr1 (e_lt hr1); have hd2 := two_row (e_al hx2 (cntRow (some x) n c (some x2) n c2)); obtain ⟨d20, d21⟩ := hd2; clear hx1 hr1 b1 h1 h2 HZ))
          | ((with_reducible refine Plan.load_lit 24 (.tmp 3) w.heap.size ?_ hx2 Try.underlying24 ?_ ?_ ?_); (· rfl); (· rfl); (· exact cnt_info); simp only [Act.put, List.setIfInBounds_toArray, List.set_cons_zero, List.set_cons_succ])
          | (go_at_call 33; ((with_reducible refine (HCL.out _ (b2.alloc b2.size (cntRow (some x) n c (some x2) n c2))).mono ?_); rintro r9 w3 ⟨g, k3, rfl, hg, hgl, own, h3⟩; have b3 := (b2.alloc b2.size (cntRow (some x) n c (some x2) n c2)).trans (h3.mono (b2.alloc b2.size _).size); have hX3 := e_on h3 (heap_alloc_new w2 (cntRow (some x) n c (some x2) n c2)) (by simp); have hx3 := e_on h3 (e_al hx2 _) (e_lt (e_al hx2 _)); have hr3 := e_on h3 (e_al hr2 _) (e_lt (e_al hr2 _)); have hz2 := e_lt hr2; have hgX : w2.heap.size < g := (by rw [World.size_alloc] at hg; omega); have q1 := b2.size; clear d20 d21 hx2 hr2 h3 b2 HCL hg; generalize w2.heap.size = X at *))
          | ((with_reducible refine store_slice_c 22 (.tmp 23) (.tmp 22) X 1 (some ⟨g, 0, none⟩) n k3 ?_ ?_ ⟨_, (two_row hX3).2⟩ (free_row_c hX3) ints_info1 ?_); (· rfl); (· rfl); simp only [Act.put]; rw [setCell_eq_setRow _ _ _ _ _ _ _ hX3]; simp only [List.setIfInBounds_toArray, List.set_cons_zero, List.set_cons_succ]; have hx4 := (setRow_other w3 X w.heap.size #[.slice (some x) n c, .slice (some ⟨g, 0, none⟩) n k3] (by omega)).trans hx3; have hr4 := (setRow_other w3 X (w.heap.size + 1) #[.slice (some x) n c, .slice (some ⟨g, 0, none⟩) n k3] (by omega)).trans hr3; have b4 := below_setRow b3 (show w.heap.size ≤ X by omega) #[.slice (some x) n c, .slice (some ⟨g, 0, none⟩) n k3]; have hX4 := setRow_heap w3 X _ #[.slice (some x) n c, .slice (some ⟨g, 0, none⟩) n k3] _ _ hX3; have own4 := Own.row own #[.slice (some x) n c, .slice (some ⟨g, 0, none⟩) n k3] (show X ≠ g by omega); obtain ⟨e0, e1⟩ := two_row hX4; have hC4 := int_own_cell own4 HPp.out; obtain ⟨f0, f1⟩ := hC4; clear hx3 hr3 b3 hX3 own; generalize w3.setRow X #[.slice (some x) n c, .slice (some ⟨g, 0, none⟩) n k3] = w4 at *; have own5 := e_owns_cell own4 k (.int .i64 (p + kk)); have hx5 := (Below.heap_setCell w4 ⟨g, k, none⟩ (.int .i64 (p + kk)) w.heap.size (by simp; omega)).trans hx4; have hr5 := (Below.heap_setCell w4 ⟨g, k, none⟩ (.int .i64 (p + kk)) (w.heap.size + 1) (by simp; omega)).trans hr4; have hX5 := (Below.heap_setCell w4 ⟨g, k, none⟩ (.int .i64 (p + kk)) X (by simp; omega)).trans hX4; have b5 := b4.setCell (show w.heap.size ≤ (⟨g, k, none⟩ : Addr).block from (by simp; omega)) (.int .i64 (p + kk)); rw [intC_set, ← HPL.out] at own5; have D5 := pend_list (HLV.out _ b5) own5 (show w.heap.size + 1 < g by omega))
          | ((with_reducible refine Plan.load_lit 24 (.tmp 8) X ?_ hX5 Try.underlying24 ?_ ?_ ?_); (· rfl); (· rfl); (· exact cnt_info); simp only [Act.put, List.setIfInBounds_toArray, List.set_cons_zero, List.set_cons_succ])
          | ((with_reducible refine Plan.load_lit 24 (.tmp 3) w.heap.size ?_ hx5 Try.underlying24 ?_ ?_ ?_); (· rfl); (· rfl); (· exact cnt_info); simp only [Act.put, List.setIfInBounds_toArray, List.set_cons_zero, List.set_cons_succ])
          | (go_at_call 34; ((with_reducible refine (ifValid_yes _ _ _ _ _ _ _ _ _ _ _ _ _ _ _ D5 HR3.out).mono ?_); rintro r9 w6 ⟨rfl, h6⟩; have b6 := b5.trans (h6.mono b5.size); have hr6 := e_on h6 hr5 (e_lt hr5); have D6 := D5.on (Same.below h6); clear D5))
          | ((with_reducible refine Plan.store_lit 24 (.tmp 6) _ (w.heap.size + 1) ?_ hr6 ?_ ?_ ?_ ?_ ?_ ?_); rotate_left; (· rfl); (· rfl); (· exact cnt_info); (· rfl); (· simp [Value.oneCell']); simp only [Act.put]))
        exact bodyPost_ret (Plan.results_cell_tmp (p := 6) (q := 7) rfl _ _ _ _ _ _ _ rfl (setRow_heap _ _ _ _ _ _ hr6) Try.underlying24 rfl cnt_info) rfl ⟨_, _, _, _, _, _, rfl, (D6.on (Same.row (r := w.heap.size + 1) (fun h => by rcases h with h | h; (· have := h.2; omega); (· omega)) _)).mono (fun b _ h => by rcases h with h | h; (· exact .inl h.1); (· exact .inr (by omega))), below_setRow b6 (show w.heap.size ≤ w.heap.size + 1 by omega) _⟩
set_option maxHeartbeats 1000000 in
set_option maxRecDepth 20000 in
theorem lbgn_any (F : Nat → Prop) (C : Cnt) (z : Int) (a a2 : Option Addr) (n c n2 c2 : Nat) (w : World) (hl : CList w F a n c a2 n2 c2 C) :
    Calls Try.prog 18 #[cntV a n c a2 n2 c2, .int .i64 z] w (CntPost w F (beginC C z) (beginB C z)) := by
  have hA := ((Below.refl w.heap.size w).alloc (Nat.le_refl _) (cntRow a n c a2 n2 c2)).alloc (by simp) (cntRow none 0 0 none 0 0)
  have hx0 := heap_first w (cntRow a n c a2 n2 c2) (cntRow none 0 0 none 0 0)
  have hr0 := heap_second w (cntRow a n c a2 n2 c2) (cntRow none 0 0 none 0 0)
  rw [(begin_pend C z).1, (begin_pend C z).2]
  have HB := Lib.hid (pend_any _ C z (1) a a2 n c n2 c2 _ (hl.cut.on (Same.below hA)) (by omega))
  generalize pendB C z (1) = B at *
  generalize pendC C z (1) = D at *
  unfold CntPost at HB ⊢
  clear hl
  go_enter Try.func18, Try.ntmps18
  generalize hw0 : (w.alloc (cntRow a n c a2 n2 c2)).alloc (cntRow none 0 0 none 0 0) = w0 at *
  go_wp2_with (first
    | ((with_reducible refine Plan.load_lit 24 (.tmp 2) w.heap.size ?_ hx0 Try.underlying24 ?_ ?_ ?_); (· rfl); (· rfl); (· exact cnt_info); simp only [Act.put, List.setIfInBounds_toArray, List.set_cons_zero, List.set_cons_succ])
    | (go_at_call 38; ((with_reducible refine (HB.out).mono ?_); rintro r9 w1 ⟨xa, xn, xc, xa2, xn2, xc2, rfl, lx, h1⟩; have b1 := hA.trans (h1.mono hA.size); have hr1 := e_on h1 hr0 (e_lt hr0); have hz := hA.size; have hz1 := e_lt hr0))
    | ((with_reducible refine Plan.store_lit 24 (.tmp 4) _ (w.heap.size + 1) ?_ hr1 ?_ ?_ ?_ ?_ ?_ ?_); rotate_left; (· rfl); (· rfl); (· exact cnt_info); (· rfl); (· simp [Value.oneCell']); simp only [Act.put]))
  exact bodyPost_ret (Plan.results_cell_tmp (p := 4) (q := 5) rfl _ _ _ _ _ _ _ rfl (setRow_heap _ _ _ _ _ _ hr1) Try.underlying24 rfl cnt_info) rfl ⟨_, _, _, _, _, _, rfl, (lx.on (Same.row (r := w.heap.size + 1) (fun h => by rcases h with h | h; (· have := h.2; omega); (· omega)) _)).mono (fun b _ h => by rcases h with h | h; (· exact .inl h.1); (· exact .inr (by omega))), below_setRow b1 (by omega) _⟩
set_option maxHeartbeats 1000000 in
set_option maxRecDepth 20000 in
theorem lfin_any (F : Nat → Prop) (C : Cnt) (z : Int) (a a2 : Option Addr) (n c n2 c2 : Nat) (w : World) (hl : CList w F a n c a2 n2 c2 C) :
    Calls Try.prog 19 #[cntV a n c a2 n2 c2, .int .i64 z] w (CntPost w F (endC C z) (endB C z)) := by
  have hA := ((Below.refl w.heap.size w).alloc (Nat.le_refl _) (cntRow a n c a2 n2 c2)).alloc (by simp) (cntRow none 0 0 none 0 0)
  have hx0 := heap_first w (cntRow a n c a2 n2 c2) (cntRow none 0 0 none 0 0)
  have hr0 := heap_second w (cntRow a n c a2 n2 c2) (cntRow none 0 0 none 0 0)
  rw [(end_pend C z).1, (end_pend C z).2]
  have HB := Lib.hid (pend_any _ C z (-1) a a2 n c n2 c2 _ (hl.cut.on (Same.below hA)) (by omega))
  generalize pendB C z (-1) = B at *
  generalize pendC C z (-1) = D at *
  unfold CntPost at HB ⊢
  clear hl
  go_enter Try.func19, Try.ntmps19
  generalize hw0 : (w.alloc (cntRow a n c a2 n2 c2)).alloc (cntRow none 0 0 none 0 0) = w0 at *
  go_wp2_with (first
    | ((with_reducible refine Plan.load_lit 24 (.tmp 2) w.heap.size ?_ hx0 Try.underlying24 ?_ ?_ ?_); (· rfl); (· rfl); (· exact cnt_info); simp only [Act.put, List.setIfInBounds_toArray, List.set_cons_zero, List.set_cons_succ])
    | (go_at_call 38; ((with_reducible refine (HB.out).mono ?_); rintro r9 w1 ⟨xa, xn, xc, xa2, xn2, xc2, rfl, lx, h1⟩; have b1 := hA.trans (h1.mono hA.size); have hr1 := e_on h1 hr0 (e_lt hr0); have hz := hA.size; have hz1 := e_lt hr0))
    | ((with_reducible refine Plan.store_lit 24 (.tmp 4) _ (w.heap.size + 1) ?_ hr1 ?_ ?_ ?_ ?_ ?_ ?_); rotate_left; (· rfl); (· rfl); (· exact cnt_info); (· rfl); (· simp [Value.oneCell']); simp only [Act.put]))
  exact bodyPost_ret (Plan.results_cell_tmp (p := 4) (q := 5) rfl _ _ _ _ _ _ _ rfl (setRow_heap _ _ _ _ _ _ hr1) Try.underlying24 rfl cnt_info) rfl ⟨_, _, _, _, _, _, rfl, (lx.on (Same.row (r := w.heap.size + 1) (fun h => by rcases h with h | h; (· have := h.2; omega); (· omega)) _)).mono (fun b _ h => by rcases h with h | h; (· exact .inl h.1); (· exact .inr (by omega))), below_setRow b1 (by omega) _⟩
end Go.Proofs.Ytigmjpkhpoolkaa.Ents
