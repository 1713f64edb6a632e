
/- Counters in memory; the walks of the document's Valid, has, plus, Same, New of counters. -/
import Derived.Test.YtigmjpkhpoolkaaCntMath
import Derived.Test.YtigmjpkhpoolkaaIntIs
import Derived.Test.YtigmjpkhpoolkaaEntSame
namespace Go.Proofs.Ytigmjpkhpoolkaa.Ents
open Go.RowKit Plan EntMath CntMath
abbrev cntV (a : Option Addr) (n c : Nat) (a2 : Option Addr) (n2 c2 : Nat) : Value := .agg #[.slice a n c, .slice a2 n2 c2]
abbrev cntRow (a : Option Addr) (n c : Nat) (a2 : Option Addr) (n2 c2 : Nat) : Obj := .cells #[.slice a n c, .slice a2 n2 c2] 24
/-- counters that lie in the blocks of a set -/
structure CList (w : World) (F : Nat → Prop) (a : Option Addr) (n c : Nat) (a2 : Option Addr) (n2 c2 : Nat) (C : Cnt) : Prop where
  l : IList w F a n c C.live
  p : IList w F a2 n2 c2 C.pend
theorem CList.on {F : Nat → Prop} {w w' : World} {a a2 : Option Addr} {n c n2 c2 : Nat} {C : Cnt} (h : CList w F a n c a2 n2 c2 C) (hw : Same F w w') : CList w' F a n c a2 n2 c2 C := ⟨h.l.on hw, h.p.on hw⟩
theorem CList.mono {F G : Nat → Prop} {w : World} {a a2 : Option Addr} {n c n2 c2 : Nat} {C : Cnt} (h : CList w F a n c a2 n2 c2 C) (hFG : ∀ b, b < w.heap.size → F b → G b) : CList w G a n c a2 n2 c2 C := ⟨h.l.mono hFG, h.p.mono hFG⟩
theorem CList.cut {F : Nat → Prop} {w : World} {a a2 : Option Addr} {n c n2 c2 : Nat} {C : Cnt} (h : CList w F a n c a2 n2 c2 C) : CList w (fun b => F b ∧ b < w.heap.size) a n c a2 n2 c2 C := ⟨h.l.cut, h.p.cut⟩
theorem CList.same {F : Nat → Prop} {w w' : World} {a a2 : Option Addr} {n c n2 c2 : Nat} {C : Cnt} (h : CList w F a n c a2 n2 c2 C) (hb : Below w.heap.size w w') : CList w' (fun b => b < w.heap.size) a n c a2 n2 c2 C := ⟨h.l.same hb, h.p.same hb⟩
theorem cnt_info : (Try.prog.info? 24).map (·.size) = some 2 := by kernel_rfl
theorem two_row {w : World} {g : Nat} {a b : Value} {t : TypeId} {fr : Nat × Nat} (h : w.heap[g]? = some (.cells #[a, b] t fr)) : w.cell? ⟨g, 0, none⟩ = some a ∧ w.cell? ⟨g, 1, none⟩ = some b := ⟨cell_of_row _ _ 0 _ _ _ h, cell_of_row _ _ 1 _ _ _ h⟩
theorem cnt_no {C : Cnt} (h : ¬ (C.live.length = C.pend.length ∧ 1 ≤ C.live.length ∧ C.live.length ≤ 32)) : validC C = false := by
  cases hv : validC C
  · rfl
  · exact absurd (valid_c.1 hv).1 h
theorem cnt_badl {C : Cnt} {j : Nat} {z : Int} (hz : C.live[j]? = some z) (h : ¬ (0 ≤ z ∧ z ≤ 1099511627776)) : validC C = false := by
  cases hv : validC C
  · rfl
  · exact absurd ((valid_c.1 hv).2.1 z (List.mem_of_getElem? hz)) h
theorem cnt_badp {C : Cnt} {j : Nat} {z : Int} (hz : C.pend[j]? = some z) (h : ¬ (0 ≤ z ∧ z ≤ 1099511627776)) : validC C = false := by
  cases hv : validC C
  · rfl
  · exact absurd ((valid_c.1 hv).2.2 z (List.mem_of_getElem? hz)) h
theorem cnt_all {C : Cnt} (h : C.live.length = C.pend.length ∧ 1 ≤ C.live.length ∧ C.live.length ≤ 32) (hs : ∀ j : Nat, j < C.live.length → (∀ z, C.live[j]? = some z → 0 ≤ z ∧ z ≤ 1099511627776) ∧ ∀ z, C.pend[j]? = some z → 0 ≤ z ∧ z ≤ 1099511627776) : validC C = true := by
  refine valid_c.2 ⟨h, fun z hz => ?_, fun z hz => ?_⟩
  · obtain ⟨j, hj⟩ := List.mem_iff_getElem?.1 hz
    exact (hs j (List.getElem?_eq_some_iff.1 hj).1).1 z hj
  · obtain ⟨j, hj⟩ := List.mem_iff_getElem?.1 hz
    exact (hs j (by have := (List.getElem?_eq_some_iff.1 hj).1; omega)).2 z hj
theorem five_ways (z y : Int) : (z < 0) ∨ (¬ z < 0 ∧ 1099511627776 < z) ∨ (¬ z < 0 ∧ ¬ 1099511627776 < z ∧ y < 0) ∨ (¬ z < 0 ∧ ¬ 1099511627776 < z ∧ ¬ y < 0 ∧ 1099511627776 < y) ∨ (¬ z < 0 ∧ ¬ 1099511627776 < z ∧ ¬ y < 0 ∧ ¬ 1099511627776 < y) := by omega
set_option maxHeartbeats 4000000 in
set_option maxRecDepth 20000 in
theorem refCValid_any (F : Nat → Prop) (C : Cnt) (a a2 : Option Addr) (n c n2 c2 : Nat) (w : World) (hl : CList w F a n c a2 n2 c2 C) :
    Calls Try.prog 23 #[cntV a n c a2 n2 c2] w fun r w' => r = .returned (.bool (validC C)) ∧ Below w.heap.size w w' := by
  have hlen := hl.l.length
  have hlen2 := hl.p.length
  have hA := (Below.refl w.heap.size w).alloc (Nat.le_refl _) (cntRow a n c a2 n2 c2)
  have hr0 := heap_alloc_new w (cntRow a n c a2 n2 c2)
  have H1 := Lib.hid (fun W (h : Below w.heap.size w W) i (hi : i < n) => (hl.l.same h).at' i hi)
  have H2 := Lib.hid (fun W (h : Below w.heap.size w W) i (hi : i < n2) => (hl.p.same h).at' i hi)
  have hno := @cnt_no C
  have hbl := fun j z h => @cnt_badl C j z h
  have hbp := fun j z h => @cnt_badp C j z h
  have hall := @cnt_all C
  rw [hlen, hlen2] at hno hall
  generalize validC C = R at *
  have HNO := Lib.hid hno
  have HBL := Lib.hid hbl
  have HBP := Lib.hid hbp
  have HALL := Lib.hid hall
  clear hno hbl hbp hall
  have hcp := hl.l.cap
  have hcp2 := hl.p.cap
  unfold maxLen at hcp hcp2
  clear hl
  by_cases hn : n = n2 ∧ 1 ≤ n ∧ n ≤ 32
  · obtain ⟨hn0, hn1, hn2⟩ := hn
    subst hn0
    have g1 : ¬ (n : Int) < 1 := by omega
    have g2 : ¬ (32 : Int) < (n : Int) := by omega
    have g3 : decide ((n : Int) < 1) = false := by simpa using g1
    have g4 : decide ((32 : Int) < (n : Int)) = false := by simpa using g2
    have g5 : decide (32 < n) = false := by simp; omega
    have g6 : decide (n < 1) = false := by simp; omega
    go_enter Try.func23, Try.ntmps23
    obtain ⟨c0, c1⟩ := two_row hr0
    generalize hw0 : w.alloc (cntRow a n c a2 n c2) = w0 at *
    go_wp2_with fail
    go_loopw [3] (fun x wr => ∃ j : Nat, x = .int .i64 (j : Int) ∧ j ≤ n ∧ RowKit.Hid (∀ i : Nat, i < j → (∀ z, C.live[i]? = some z → 0 ≤ z ∧ z ≤ 1099511627776) ∧ ∀ z, C.pend[i]? = some z → 0 ≤ z ∧ z ≤ 1099511627776) ∧ wr.heap[w.heap.size]? = some (cntRow a n c a2 n c2) ∧ Below w.heap.size w wr) (fun x _ => n - (intOf x).toNat)
    case atStart => exact ⟨0, rfl, by omega, Lib.hid (fun i h => absurd h (Nat.not_lt_zero _)), hr0, hA⟩
    case round =>
      clear c0 c1 hr0 hA
      obtain ⟨j, rfl, hj, hbf, hr, hb⟩ := hrel
      obtain ⟨c0, c1⟩ := two_row hr
      by_cases hlt : j < n
      · obtain ⟨x, z, rfl, hz, hcx⟩ := H1.out wr hb j hlt
        obtain ⟨y, z2, rfl, hz2, hcy⟩ := H2.out wr hb j hlt
        have hjI : (j : Int) < (n : Int) := by omega
        have N1 := Lib.hid (HBL.out j z hz)
        have N2 := Lib.hid (HBP.out j z2 hz2)
        have NX := Lib.hid (fun (k1 : 0 ≤ z ∧ z ≤ 1099511627776) (k2 : 0 ≤ z2 ∧ z2 ≤ 1099511627776) (i : Nat) (hi : i < j + 1) => (show (∀ z, C.live[i]? = some z → 0 ≤ z ∧ z ≤ 1099511627776) ∧ ∀ z, C.pend[i]? = some z → 0 ≤ z ∧ z ≤ 1099511627776 from by
          rcases Nat.lt_or_ge i j with h1 | h1
          · exact hbf.out i h1
          · obtain rfl : i = j := by omega
            exact ⟨fun q hq => by rw [hz] at hq; obtain rfl := Option.some.inj hq; exact k1, fun q hq => by rw [hz2] at hq; obtain rfl := Option.some.inj hq; exact k2⟩))
        clear hz hz2
        rcases five_ways z z2 with q1 | ⟨q1, q2⟩ | ⟨q1, q2, q3⟩ | ⟨q1, q2, q3, q4⟩ | ⟨q1, q2, q3, q4⟩
        · have p1 : decide (z < 0) = true := by simp; omega
          have hR := Lib.hid (N1.out (by omega))
          go_wp2_with fail
          go_ret
          exact ⟨by rw [hR.out]; rfl, hb⟩
        · have p1 : decide (z < 0) = false := by simp; omega
          have p2 : decide (1099511627776 < z) = true := by simp; omega
          have hR := Lib.hid (N1.out (by omega))
          go_wp2_with fail
          go_ret
          exact ⟨by rw [hR.out]; rfl, hb⟩
        · have p1 : decide (z < 0) = false := by simp; omega
          have p2 : decide (1099511627776 < z) = false := by simp; omega
          have p3 : decide (z2 < 0) = true := by simp; omega
          have hR := Lib.hid (N2.out (by omega))
          go_wp2_with fail
          go_ret
          exact ⟨by rw [hR.out]; rfl, hb⟩
        · have p1 : decide (z < 0) = false := by simp; omega
          have p2 : decide (1099511627776 < z) = false := by simp; omega
          have p3 : decide (z2 < 0) = false := by simp; omega
          have p4 : decide (1099511627776 < z2) = true := by simp; omega
          have hR := Lib.hid (N2.out (by omega))
          go_wp2_with fail
          go_ret
          exact ⟨by rw [hR.out]; rfl, hb⟩
        · have p1 : decide (z < 0) = false := by simp; omega
          have p2 : decide (1099511627776 < z) = false := by simp; omega
          have p3 : decide (z2 < 0) = false := by simp; omega
          have p4 : decide (1099511627776 < z2) = false := by simp; omega
          have HN := Lib.hid (NX.out (by omega) (by omega))
          go_wp2_with fail
          go_roundw
          case rel => exact ⟨j + 1, by go_num, by omega, HN, hr, hb⟩
          case measure => simp [intOf]; omega
      · obtain rfl : j = n := by omega
        have hR := Lib.hid (HALL.out ⟨by trivial, hn1, hn2⟩ (fun i hi => hbf.out i (by omega)))
        go_wp2_with fail
        go_ret
        exact ⟨by rw [hR.out]; rfl, hb⟩
  · have hR := Lib.hid (HNO.out hn)
    rcases (show (¬ n = n2) ∨ (n = n2 ∧ n < 1) ∨ (n = n2 ∧ 32 < n) by omega) with h1 | ⟨rfl, h1⟩ | ⟨rfl, h1⟩
    · have g1 : ((n : Int) != (n2 : Int)) = true := by simp; omega
      have g2 : (n != n2) = true := by simpa using h1
      go_enter Try.func23, Try.ntmps23
      obtain ⟨c0, c1⟩ := two_row hr0
      go_wp2_with fail
      go_ret
      exact ⟨by rw [hR.out]; rfl, hA⟩
    · have g1 : (n : Int) < 1 := by omega
      have g2 : decide ((n : Int) < 1) = true := by simpa using g1
      go_enter Try.func23, Try.ntmps23
      obtain ⟨c0, c1⟩ := two_row hr0
      go_wp2_with fail
      go_ret
      exact ⟨by rw [hR.out]; rfl, hA⟩
    · have g1 : ¬ (n : Int) < 1 := by omega
      have g2 : decide ((n : Int) < 1) = false := by simpa using g1
      have g3 : (32 : Int) < (n : Int) := by omega
      have g4 : decide ((32 : Int) < (n : Int)) = true := by simpa using g3
      have g5 : decide (32 < n) = true := by simpa using h1
      go_enter Try.func23, Try.ntmps23
      obtain ⟨c0, c1⟩ := two_row hr0
      go_wp2_with fail
      go_ret
      exact ⟨by rw [hR.out]; rfl, hA⟩
set_option maxHeartbeats 1000000 in
theorem refHas_any (F : Nat → Prop) (C : Cnt) (z : Int) (a a2 : Option Addr) (n c n2 c2 : Nat) (w : World) (hl : CList w F a n c a2 n2 c2 C) :
    Calls Try.prog 39 #[cntV a n c a2 n2 c2, .int .i64 z] w fun r w' => r = .returned (.bool (hasC C z)) ∧ Below w.heap.size w w' := by
  have hlen := hl.l.length
  have hA := (Below.refl w.heap.size w).alloc (Nat.le_refl _) (cntRow a n c a2 n2 c2)
  have hr0 := heap_alloc_new w (cntRow a n c a2 n2 c2)
  have HV := Lib.hid (refCValid_any _ C a a2 n c n2 c2 _ (hl.same hA))
  have hres : hasC C z = (validC C && decide (0 ≤ z) && decide (z < (n : Int))) := by unfold hasC; rw [hlen]
  rw [hres]
  generalize validC C = V at *
  clear hl hres
  have hcases : (V = false) ∨ (V = true ∧ ¬ 0 ≤ z) ∨ (V = true ∧ 0 ≤ z ∧ ¬ z < (n : Int)) ∨ (V = true ∧ 0 ≤ z ∧ z < (n : Int)) := by
    cases V
    · exact .inl rfl
    · by_cases h1 : 0 ≤ z
      · by_cases h2 : z < (n : Int)
        · exact .inr (.inr (.inr ⟨rfl, h1, h2⟩))
        · exact .inr (.inr (.inl ⟨rfl, h1, h2⟩))
      · exact .inr (.inl ⟨rfl, h1⟩)
  obtain ⟨R, hR⟩ : ∃ R, R = (V && decide (0 ≤ z) && decide (z < (n : Int))) := ⟨_, rfl⟩
  rw [← hR]
  have HR := Lib.hid hR
  clear hR
  rcases hcases with rfl | ⟨rfl, g1⟩ | ⟨rfl, g1, g2⟩ | ⟨rfl, g1, g2⟩
  · skip
    go_enter Try.func39, Try.ntmps39
    generalize hw0 : w.alloc (cntRow a n c a2 n2 c2) = w0 at *
    go_wp2_with (first
      | ((with_reducible refine Plan.load_lit 24 (.tmp 2) w.heap.size ?_ hr0 Try.underlying24 ?_ ?_ ?_); (· rfl); (· rfl); (· exact cnt_info); simp only [Act.put, List.setIfInBounds_toArray, List.set_cons_zero, List.set_cons_succ])
      | (go_at_call 23; ((with_reducible refine HV.out.mono ?_); rintro r9 w1 ⟨rfl, h1⟩; have b1 := hA.trans (h1.mono hA.size); obtain ⟨e0, e1⟩ := two_row (e_on h1 hr0 (e_lt hr0)))))
    go_ret
    exact ⟨i_b (by rw [HR.out]; rfl), b1⟩
  · have d1 : decide (0 ≤ z) = false := by simpa using g1
    go_enter Try.func39, Try.ntmps39
    generalize hw0 : w.alloc (cntRow a n c a2 n2 c2) = w0 at *
    go_wp2_with (first
      | ((with_reducible refine Plan.load_lit 24 (.tmp 2) w.heap.size ?_ hr0 Try.underlying24 ?_ ?_ ?_); (· rfl); (· rfl); (· exact cnt_info); simp only [Act.put, List.setIfInBounds_toArray, List.set_cons_zero, List.set_cons_succ])
      | (go_at_call 23; ((with_reducible refine HV.out.mono ?_); rintro r9 w1 ⟨rfl, h1⟩; have b1 := hA.trans (h1.mono hA.size); obtain ⟨e0, e1⟩ := two_row (e_on h1 hr0 (e_lt hr0)))))
    go_ret
    exact ⟨i_b (by rw [HR.out]; rw [d1]; rfl), b1⟩
  · have d1 : decide (0 ≤ z) = true := by simpa using g1
    have d2 : decide (z < (n : Int)) = false := by simpa using g2
    go_enter Try.func39, Try.ntmps39
    generalize hw0 : w.alloc (cntRow a n c a2 n2 c2) = w0 at *
    go_wp2_with (first
      | ((with_reducible refine Plan.load_lit 24 (.tmp 2) w.heap.size ?_ hr0 Try.underlying24 ?_ ?_ ?_); (· rfl); (· rfl); (· exact cnt_info); simp only [Act.put, List.setIfInBounds_toArray, List.set_cons_zero, List.set_cons_succ])
      | (go_at_call 23; ((with_reducible refine HV.out.mono ?_); rintro r9 w1 ⟨rfl, h1⟩; have b1 := hA.trans (h1.mono hA.size); obtain ⟨e0, e1⟩ := two_row (e_on h1 hr0 (e_lt hr0)))))
    go_ret
    exact ⟨i_b (by rw [HR.out]; rw [d1, d2]; rfl), b1⟩
  · have d1 : decide (0 ≤ z) = true := by simpa using g1
    have d2 : decide (z < (n : Int)) = true := by simpa using g2
    go_enter Try.func39, Try.ntmps39
    generalize hw0 : w.alloc (cntRow a n c a2 n2 c2) = w0 at *
    go_wp2_with (first
      | ((with_reducible refine Plan.load_lit 24 (.tmp 2) w.heap.size ?_ hr0 Try.underlying24 ?_ ?_ ?_); (· rfl); (· rfl); (· exact cnt_info); simp only [Act.put, List.setIfInBounds_toArray, List.set_cons_zero, List.set_cons_succ])
      | (go_at_call 23; ((with_reducible refine HV.out.mono ?_); rintro r9 w1 ⟨rfl, h1⟩; have b1 := hA.trans (h1.mono hA.size); obtain ⟨e0, e1⟩ := two_row (e_on h1 hr0 (e_lt hr0)))))
    go_ret
    exact ⟨i_b (by rw [HR.out]; rw [d1, d2]; rfl), b1⟩
theorem plus_is {Z : List Int} {i : Nat} {z : Int} (h : Z[i]? = some z) (k : Int) : plusL Z i k = Z.set i (z + k) := by unfold plusL; rw [getD_at h]
set_option maxHeartbeats 1000000 in
set_option maxRecDepth 20000 in
theorem refPlus_any (F : Nat → Prop) (Z : List Int) (a : Option Addr) (n c i : Nat) (z k : Int) (w : World) (hl : IList w F a n c Z) (hz : Z[i]? = some z) (hn : n ≤ 1000) (hb : -10 ≤ z ∧ z ≤ 1099511627786) (hk : -1 ≤ k ∧ k ≤ 1) :
    Calls Try.prog 40 #[.slice a n c, .int .i64 i, .int .i64 k] w fun r w' => ∃ g c', r = .returned (.slice (some ⟨g, 0, none⟩) n c') ∧ IList w' (fun b => w.heap.size ≤ b) (some ⟨g, 0, none⟩) n c' (plusL Z i k) ∧ Below w.heap.size w w' := by
  have hlen := hl.length
  have hi : i < n := by have := (List.getElem?_eq_some_iff.1 hz).1; omega
  obtain ⟨x, rfl, hxl, hC⟩ := hl.some' (by omega)
  obtain ⟨i1, hi1, hy0, hy1, hy2⟩ := info_parts int_info
  have hiI : (i : Int) < (n : Int) := by omega
  have hA := (Below.refl w.heap.size w).alloc (Nat.le_refl _) (.cells #[] 3)
  have HC2 := Lib.hid (fun j u (hu : (intC Z)[j]? = some u) => (hA.cell (show (x.add j).block < w.heap.size by rw [ent_add_block]; exact hxl)).trans (intC_cell hC j u hu))
  have HC3 := Lib.hid (intC_flat Z)
  have HO3 := Lib.hid (ints_empty w (H := w.heap.size) rfl)
  have hCl : (intC Z).length = n := by rw [intC_len]; exact hlen
  have hwr : IntKind.i64.wrap (z + k) = z + k := IntWalk.i64_in _ (by omega)
  have hwr2 : wrap64 (z + k) = z + k := by unfold wrap64; omega
  have HZ := Lib.hid hz
  have HP := Lib.hid (plus_is hz k)
  clear hl hC hz
  go_enter Try.func40, Try.ntmps40
  go_wp2_with (first
    | (at_builtin; refine wpList_append_lies _ rfl _ _ 22 rfl w.heap.size 3 i1 _ 1 8 Try.underlying22 hi1 hy0 hy1 hy2 rfl (by decide) _ 0 [] (by rfl) HO3.out x n c (intC Z) rfl (by omega) HC2.out HC3.out (by omega) (by unfold maxLen; omega) (by omega) (by simp) _ rfl ?_; intro g7 c7 w7 hown7 hgrow7 hat7 hlt7; rw [Nat.zero_add, List.nil_append] at hown7; have hg7 := hown7.lt g7 rfl; have b7 := hA.grown hgrow7 hA.size (fun z9 h9 => by have h8 := Option.some.inj (show some w.heap.size = some z9 from h9); omega); obtain ⟨q7, f7⟩ := int_own_cell hown7 HZ.out; have O8 := e_owns_cell hown7 i (.int .i64 (z + k)); have b8 := b7.setCell (show w.heap.size ≤ (⟨g7, i, none⟩ : Addr).block from hg7.1) (.int .i64 (z + k))))
  go_ret
  rw [intC_set] at O8
  obtain ⟨a9, c9, e9, l9⟩ := own_ilist (F := fun b => w.heap.size ≤ b) O8 (fun b h9 => by have h8 := Option.some.inj (show some g7 = some b from h9); omega)
  cases e9
  exact ⟨g7, c7, rfl, by rw [HP.out]; exact l9, b8⟩
set_option maxHeartbeats 1000000 in
theorem refCSame_any (F G : Nat → Prop) (C : Cnt) (a a2 b b2 : Option Addr) (n c n2 c2 m d m2 d2 : Nat) (w : World) (hl : CList w F a n c a2 n2 c2 C) (hk : CList w G b m d b2 m2 d2 C) :
    Calls Try.prog 17 #[cntV a n c a2 n2 c2, cntV b m d b2 m2 d2] w fun r w' => r = .returned (.bool true) ∧ Below w.heap.size w w' := by
  have hA := ((Below.refl w.heap.size w).alloc (Nat.le_refl _) (cntRow a n c a2 n2 c2)).alloc (by simp) (cntRow b m d b2 m2 d2)
  have hx0 := heap_first w (cntRow a n c a2 n2 c2) (cntRow b m d b2 m2 d2)
  have hy0 := heap_second w (cntRow a n c a2 n2 c2) (cntRow b m d b2 m2 d2)
  have S1 := Lib.hid (fun W (h : Below w.heap.size w W) => sameInts_any _ _ C.live a b n c m d W (hl.l.same h) (hk.l.same h))
  have S2 := Lib.hid (fun W (h : Below w.heap.size w W) => sameInts_any _ _ C.pend a2 b2 n2 c2 m2 d2 W (hl.p.same h) (hk.p.same h))
  clear hl hk
  go_enter Try.func17, Try.ntmps17
  obtain ⟨c0, c1⟩ := two_row hx0
  obtain ⟨e0, e1⟩ := two_row hy0
  generalize hw0 : (w.alloc (cntRow a n c a2 n2 c2)).alloc (cntRow b m d b2 m2 d2) = w0 at *
  go_wp2_with (first
    | (go_at_call 20; ((with_reducible refine (S1.out _ hA).mono ?_); rintro r9 w1 ⟨rfl, h1⟩; have b1 := hA.trans (h1.mono hA.size); clear c0 c1 e0 e1; obtain ⟨c0, c1⟩ := two_row (e_on h1 hx0 (e_lt hx0)); obtain ⟨e0, e1⟩ := two_row (e_on h1 hy0 (e_lt hy0)); clear S1))
    | (go_at_call 20; ((with_reducible refine (S2.out _ b1).mono ?_); rintro r9 w2 ⟨rfl, h2⟩; have b2 := b1.trans (h2.mono b1.size))))
  go_ret
  exact ⟨rfl, b2⟩
end Go.Proofs.Ytigmjpkhpoolkaa.Ents
