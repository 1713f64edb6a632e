
/- The walks of the document's Free, set, Take, Give of locks. -/
import Derived.Test.YtoclcefnecghfaaLckIs
namespace Go.Proofs.Ytoclcefnecghfaa.Ents
open Go.RowKit Plan EntMath CntMath LckMath
theorem lck_at {w : World} {F : Nat → Prop} {O : List Int} {s : Int} {a : Option Addr} {n c : Nat} (hl : IList w F a n c O) (h : inK O s = true) : ∃ k : Nat, s = (k : Int) ∧ k < n ∧ n ≤ 8 ∧ ∃ x z, a = some x ∧ O[k]? = some z ∧ w.cell? (x.add k) = some (.int .i64 z) := by
  obtain ⟨hv, h0, h1⟩ := in_k.1 h
  have hvv := valid_k.1 hv
  have hln := hl.length
  obtain ⟨k, rfl⟩ : ∃ k : Nat, s = (k : Int) := ⟨s.toNat, by omega⟩
  have hk : k < n := by omega
  obtain ⟨x, z, hx, hz, hc⟩ := hl.at' k hk
  exact ⟨k, rfl, hk, by omega, x, z, hx, hz, hc⟩
theorem in_three {O : List Int} {s : Int} {n : Nat} (hn : O.length = n) (h : inK O s = false) : validK O = false ∨ (validK O = true ∧ s < 0) ∨ (validK O = true ∧ 0 ≤ s ∧ (n : Int) ≤ s) := by
  cases hv : validK O
  · exact .inl rfl
  · by_cases h0 : 0 ≤ s
    · by_cases h1 : (n : Int) ≤ s
      · exact .inr (.inr ⟨rfl, h0, h1⟩)
      · rw [in_k.2 ⟨hv, h0, by omega⟩] at h
        cases h
    · exact .inr (.inl ⟨rfl, by omega⟩)
set_option maxHeartbeats 4000000 in
set_option maxRecDepth 20000 in
theorem refFree_any (F : Nat → Prop) (O : List Int) (s : Int) (a : Option Addr) (n c : Nat) (w : World) (hl : IList w F a n c O) :
    Calls Try.prog 19 #[lckV a n c, .int .i64 s] w fun r w' => r = .returned (.bool (freeK O s)) ∧ Below w.heap.size w w' := by
  have hlen := hl.length
  have hA := (Below.refl w.heap.size w).alloc (Nat.le_refl _) (lckRow a n c)
  have hr0 := heap_alloc_new w (lckRow a n c)
  have HV := Lib.hid (refLValid_any _ O a n c _ (hl.same hA))
  cases hin : inK O s
  · have hfr : freeK O s = false := by unfold freeK; rw [hin]; rfl
    rw [hfr]
    have h3 := in_three hlen hin
    clear hl hin hfr
    rcases h3 with h3 | ⟨h3, h4⟩ | ⟨h3, h4, h5⟩
    · rw [h3] at HV
      clear h3
      go_enter Try.func19, Try.ntmps19
      generalize hw0 : w.alloc (lckRow a n c) = w0 at *
      go_wp2_with (first
        | ((with_reducible refine Plan.load_lit 24 (.tmp 2) (w.heap.size) ?_ hr0 Try.underlying24 ?_ ?_ ?_); (· rfl); (· rfl); (· exact lck_info); simp only [Act.put, List.setIfInBounds_toArray, List.set_cons_zero, List.set_cons_succ])
        | (go_at_call 17; ((with_reducible refine (HV.out).mono ?_); rintro r9 w1 ⟨rfl, h1⟩; have b1 := hA.trans (h1.mono hA.size); have c0 := one_row (e_on h1 hr0 (e_lt hr0)))))
      go_ret
      exact ⟨rfl, b1⟩
    · rw [h3] at HV
      clear h3
      have p1 : decide (0 ≤ s) = false := by simp; omega
      go_enter Try.func19, Try.ntmps19
      generalize hw0 : w.alloc (lckRow a n c) = w0 at *
      go_wp2_with (first
        | ((with_reducible refine Plan.load_lit 24 (.tmp 2) (w.heap.size) ?_ hr0 Try.underlying24 ?_ ?_ ?_); (· rfl); (· rfl); (· exact lck_info); simp only [Act.put, List.setIfInBounds_toArray, List.set_cons_zero, List.set_cons_succ])
        | (go_at_call 17; ((with_reducible refine (HV.out).mono ?_); rintro r9 w1 ⟨rfl, h1⟩; have b1 := hA.trans (h1.mono hA.size); have c0 := one_row (e_on h1 hr0 (e_lt hr0)))))
      go_ret
      exact ⟨rfl, b1⟩
    · rw [h3] at HV
      clear h3
      have p1 : decide (0 ≤ s) = true := by simpa using h4
      have p2 : decide (s < (n : Int)) = false := by simp; omega
      have p3 : ¬ s < (n : Int) := by omega
      go_enter Try.func19, Try.ntmps19
      generalize hw0 : w.alloc (lckRow a n c) = w0 at *
      go_wp2_with (first
        | ((with_reducible refine Plan.load_lit 24 (.tmp 2) (w.heap.size) ?_ hr0 Try.underlying24 ?_ ?_ ?_); (· rfl); (· rfl); (· exact lck_info); simp only [Act.put, List.setIfInBounds_toArray, List.set_cons_zero, List.set_cons_succ])
        | (go_at_call 17; ((with_reducible refine (HV.out).mono ?_); rintro r9 w1 ⟨rfl, h1⟩; have b1 := hA.trans (h1.mono hA.size); have c0 := one_row (e_on h1 hr0 (e_lt hr0)))))
      go_ret
      exact ⟨rfl, b1⟩
  · obtain ⟨k, rfl, hk, hn8, x, z, rfl, hz, hc⟩ := lck_at hl hin
    rw [(in_k.1 hin).1] at HV
    have hfr : freeK O (k : Int) = decide (z = -1) := by unfold freeK; rw [hin, Int.toNat_natCast, getD_at hz]; rfl
    rw [hfr]
    have hkI : (k : Int) < (n : Int) := by omega
    have hxl : x.block < w.heap.size := by have := World.block_lt_of_cell? w _ hc; rwa [ent_add_block] at this
    have HC := Lib.hid (fun W (h : Below w.heap.size w W) => (h.cell (p := x.add k) (by rw [ent_add_block]; exact hxl)).trans hc)
    clear hl hin hfr hz hc
    by_cases q1 : z = -1
    · have p1 : decide (z = -1) = true := by simpa using q1
      have p2 : (z == -1) = true := by simpa using q1
      rw [p1]
      clear q1
      generalize hzz : Value.int IntKind.i64 z = Z at HC
      subst hzz
      go_enter Try.func19, Try.ntmps19
      generalize hw0 : w.alloc (lckRow (some x) n c) = w0 at *
      go_wp2_with (first
        | ((with_reducible refine Plan.load_lit 24 (.tmp 2) (w.heap.size) ?_ hr0 Try.underlying24 ?_ ?_ ?_); (· rfl); (· rfl); (· exact lck_info); simp only [Act.put, List.setIfInBounds_toArray, List.set_cons_zero, List.set_cons_succ])
        | (go_at_call 17; ((with_reducible refine (HV.out).mono ?_); rintro r9 w1 ⟨rfl, h1⟩; have b1 := hA.trans (h1.mono hA.size); have c0 := one_row (e_on h1 hr0 (e_lt hr0)); have hc9 := HC.out _ b1)))
      go_ret
      exact ⟨rfl, b1⟩
    · have p1 : decide (z = -1) = false := by simpa using q1
      have p2 : (z == -1) = false := by simpa using q1
      rw [p1]
      go_enter Try.func19, Try.ntmps19
      generalize hw0 : w.alloc (lckRow (some x) n c) = w0 at *
      go_wp2_with (first
        | ((with_reducible refine Plan.load_lit 24 (.tmp 2) (w.heap.size) ?_ hr0 Try.underlying24 ?_ ?_ ?_); (· rfl); (· rfl); (· exact lck_info); simp only [Act.put, List.setIfInBounds_toArray, List.set_cons_zero, List.set_cons_succ])
        | (go_at_call 17; ((with_reducible refine (HV.out).mono ?_); rintro r9 w1 ⟨rfl, h1⟩; have b1 := hA.trans (h1.mono hA.size); have c0 := one_row (e_on h1 hr0 (e_lt hr0)); have hc9 := HC.out _ b1)))
      go_ret
      exact ⟨rfl, b1⟩
set_option maxHeartbeats 2000000 in
set_option maxRecDepth 20000 in
theorem refLSet_any (F : Nat → Prop) (O : List Int) (a : Option Addr) (n c i : Nat) (z t : Int) (w : World) (hl : IList w F a n c O) (hz : O[i]? = some z) (hn : n ≤ 1000) :
    Calls Try.prog 23 #[lckV a n c, .int .i64 i, .int .i64 t] w fun r w' => ∃ g c', r = .returned (lckV (some ⟨g, 0, none⟩) n c') ∧ IList w' (fun b => w.heap.size ≤ b) (some ⟨g, 0, none⟩) n c' (O.set i t) ∧ Below w.heap.size w w' := by
  have hlen := hl.length
  have hi : i < n := by have := (List.getElem?_eq_some_iff.1 hz).1; omega
  obtain ⟨x, rfl, hxl, hC⟩ := hl.some' (by omega)
  obtain ⟨i1, hi1, hy0, hy1, hy2⟩ := info_parts int_info
  have hiI : (i : Int) < (n : Int) := by omega
  have hA := ((Below.refl w.heap.size w).alloc (Nat.le_refl _) (lckRow (some x) n c)).alloc (by simp) (lckRow none 0 0)
  have hr0 := e_al (heap_second w (lckRow (some x) n c) (lckRow none 0 0)) (.cells #[] 3)
  have hx0 := heap_first w (lckRow (some x) n c) (lckRow none 0 0)
  have hc0 := one_row hx0
  have hB := hA.alloc hA.size (.cells #[] 3)
  have HC2 := Lib.hid (fun j u (hu : (intC O)[j]? = some u) => (hB.cell (show (x.add j).block < w.heap.size by rw [ent_add_block]; exact hxl)).trans (intC_cell hC j u hu))
  have HC3 := Lib.hid (intC_flat O)
  have O3 := ints_empty ((w.alloc (lckRow (some x) n c)).alloc (lckRow none 0 0)) (H := w.heap.size + 1 + 1) (by simp only [World.size_alloc])
  have HO3 := Lib.hid O3
  have hCl : (intC O).length = n := by rw [intC_len]; exact hlen
  have HZ := Lib.hid hz
  have HB := Lib.hid hB
  have R0 := Lib.hid hr0
  clear hl hC hz O3 hr0
  go_enter Try.func23, Try.ntmps23
  go_wp2_with (first
    | (at_builtin; refine wpList_append_lies _ rfl _ _ 22 rfl (w.heap.size + 1 + 1) 3 i1 _ 1 8 Try.underlying22 hi1 hy0 hy1 hy2 rfl (by decide) _ 0 [] (by rfl) HO3.out x n c (intC O) rfl (by omega) HC2.out HC3.out (by omega) (by unfold maxLen; omega) (by omega) (by simp) _ rfl ?_; intro g7 c7 w7 hown7 hgrow7 hat7 hlt7; rw [Nat.zero_add, List.nil_append] at hown7; have hg7 := (hown7.lt g7 rfl).1; have b7 := HB.out.grown hgrow7 HB.out.size (fun z9 h9 => by have h8 := Option.some.inj (show some (w.heap.size + 1 + 1) = some z9 from h9); omega); have hr7 := (hgrow7.block (w.heap.size + 1) (by simp only [World.size_alloc]; omega) (fun h9 => by have h8 := Option.some.inj (show some _ = some (w.heap.size + 1 + 1) from h9); omega)).trans R0.out; obtain ⟨q7, f7⟩ := int_own_cell hown7 HZ.out; have hr8 := (Below.heap_setCell w7 ⟨g7, i, none⟩ (.int .i64 t) (w.heap.size + 1) (by show w.heap.size + 1 ≠ g7; omega)).trans hr7; have b8 := b7.setCell (show w.heap.size ≤ (⟨g7, i, none⟩ : Addr).block by show w.heap.size ≤ g7; omega) (.int .i64 t); have O8 := e_owns_cell hown7 i (.int .i64 t))
    | ((with_reducible refine Plan.store_lit 24 (.tmp 6) _ (w.heap.size + 1) ?_ hr8 ?_ ?_ ?_ ?_ ?_ ?_); rotate_left; (· rfl); (· rfl); (· exact lck_info); (· rfl); (· simp [Value.oneCell']); simp only [Act.put]))
  rw [intC_set] at O8
  have hgr : (w7.setCell ⟨g7, i, none⟩ (.int .i64 t)).grownBy ((w7.setCell ⟨g7, i, none⟩ (.int .i64 t)).setRow (w.heap.size + 1) #[.slice (some ⟨g7, 0, none⟩) n c7]) (some (w.heap.size + 1)) :=
    ⟨rfl, rfl, rfl, Nat.le_of_eq (by simp [World.setRow]), fun i _ hne => setRow_other _ _ i _ (fun e => hne (by rw [e]))⟩
  have O9 := O8.kept hgr (.inr fun h9 => by have h8 := Option.some.inj (show some g7 = some (w.heap.size + 1) from h9); omega)
  have b9 := below_setRow b8 (show w.heap.size ≤ w.heap.size + 1 by omega) #[.slice (some ⟨g7, 0, none⟩) n c7]
  obtain ⟨a9, c9, e9, l9⟩ := own_ilist (F := fun b => w.heap.size ≤ b) O9 (fun b h9 => by have h8 := Option.some.inj (show some g7 = some b from h9); omega)
  cases e9
  exact bodyPost_ret (results_cell_row rfl _ _ _ _ _ _ _ rfl (setRow_heap _ _ _ _ _ _ hr8) Try.underlying24 rfl lck_info) rfl ⟨g7, c7, rfl, l9, b9⟩
end Go.Proofs.Ytoclcefnecghfaa.Ents
