
/- The walks of the library's Clone at numbers, and of the program's ifValid, pend, Begin, End of counters. -/
import Derived.Test.YtigmjpkhpoolkaaLivePLeaf
namespace Go.Proofs.Ytigmjpkhpoolkaa.Ents
open Go.RowKit Plan EntMath CntMath
/-- a list of numbers of the call's own, with its block -/
def OwnI (w : World) (B n : Nat) (Z : List Int) (r : Ending) (w' : World) : Prop :=
  ∃ g c, r = .returned (.slice (some ⟨g, 0, none⟩) n c) ∧ B ≤ g ∧ g < w'.heap.size ∧ w'.ownsRow B 3 1 (.slice (some ⟨g, 0, none⟩) n c) n (intC Z) ∧ Below B w w'
set_option maxHeartbeats 1000000 in
theorem iclone_any (F : Nat → Prop) (Z : List Int) (x : Addr) (n c : Nat) (w : World) (hl : IList w F (some x) n c Z) (hn : 0 < n) (hm : n ≤ 1000) :
    Calls Try.prog 33 #[.slice (some x) n c] w (OwnI w w.heap.size n Z) := by
  have hlen := hl.length
  obtain ⟨x', hx', hxl, hC⟩ := hl.some' hn
  obtain rfl := Option.some.inj hx'
  obtain ⟨i1, hi1, hy0, hy1, hy2⟩ := info_parts int_info
  have hA := (Below.refl w.heap.size w).alloc (Nat.le_refl _) (.cells #[] 3)
  have HC2 := Lib.hid (fun j u (hu : (intC Z)[j]? = some u) => (hA.cell (show (x.add j).block < w.heap.size by rw [ent_add_block]; exact hxl)).trans (intC_cell hC j u hu))
  have HC3 := Lib.hid (intC_flat Z)
  have HO3 := Lib.hid (ints_empty w (H := w.heap.size) rfl)
  have hCl : (intC Z).length = n := by rw [intC_len]; exact hlen
  have q22 : ∀ (w : World) (a : Option Addr) (n c n' c' : Nat), (binOp .eql 22 (.slice a n c) (.slice none n' c')).run Try.prog w = .ok (.bool a.isNone) w := fun w a n c n' c' => Lib.run_eql_slice_nil w _ _ a n c n' c' Try.underlying22
  unfold OwnI
  clear hl hC
  go_enter Try.func33, Try.ntmps33
  go_wp2_with (first
    | (at_builtin; refine wpList_append_lies _ rfl _ _ 22 rfl w.heap.size 3 i1 _ 1 8 Try.underlying22 hi1 hy0 hy1 hy2 rfl (by decide) _ 0 [] (by rfl) HO3.out x n c (intC Z) rfl (by omega) HC2.out HC3.out (by omega) (by unfold maxLen; omega) (by omega) (by simp) _ rfl ?_; intro g7 c7 w7 hown7 hgrow7 hat7 hlt7; rw [Nat.zero_add, List.nil_append] at hown7; have hg7 := hown7.lt g7 rfl; have b7 := hA.grown hgrow7 hA.size (fun z9 h9 => by have h8 := Option.some.inj (show some w.heap.size = some z9 from h9); omega)))
  go_ret
  exact ⟨g7, c7, rfl, hg7.1, hg7.2, hown7, b7⟩
set_option maxHeartbeats 1000000 in
set_option maxRecDepth 20000 in
theorem ifValid_yes (F : Nat → Prop) (D : Cnt) (b b2 a a2 : Option Addr) (m d m2 d2 n c n2 c2 : Nat) (w : World) (hl : CList w F b m d b2 m2 d2 D) (hv : validC D = true) :
    Calls Try.prog 34 #[cntV b m d b2 m2 d2, cntV a n c a2 n2 c2] w fun r w' => r = .returned (.tuple #[cntV b m d b2 m2 d2, .bool true]) ∧ Below w.heap.size w w' := by
  have hA := (((Below.refl w.heap.size w).alloc (Nat.le_refl _) (cntRow b m d b2 m2 d2)).alloc (by simp) (cntRow a n c a2 n2 c2)).alloc (by simp; omega) (cntRow none 0 0 none 0 0)
  obtain ⟨hx0, hy0, hr0⟩ := heap3 w (cntRow b m d b2 m2 d2) (cntRow a n c a2 n2 c2) (cntRow none 0 0 none 0 0)
  have HV := Lib.hid (lvalid_any _ D b b2 m d m2 d2 _ (hl.on (Same.below hA)))
  rw [hv] at HV
  clear hl hv
  go_enter Try.func34, Try.ntmps34
  generalize hw0 : ((w.alloc (cntRow b m d b2 m2 d2)).alloc (cntRow a n c a2 n2 c2)).alloc (cntRow none 0 0 none 0 0) = w0 at *
  go_wp2_with (first
    | ((with_reducible refine Plan.load_lit 24 (.tmp 2) w.heap.size ?_ hx0 Try.underlying24 ?_ ?_ ?_); (· rfl); (· rfl); (· exact cnt_info); simp only [Act.put, List.setIfInBounds_toArray, List.set_cons_zero, List.set_cons_succ])
    | (go_at_call 22; ((with_reducible refine (HV.out).mono ?_); rintro r9 w1 ⟨rfl, h1⟩; have b1 := hA.trans (h1.mono hA.size); have hx1 := e_on h1 hx0 (e_lt hx0); have hr1 := e_on h1 hr0 (e_lt hr0); clear hx0 hr0))
    | ((with_reducible refine Plan.load_lit 24 (.tmp 2) w.heap.size ?_ hx1 Try.underlying24 ?_ ?_ ?_); (· rfl); (· rfl); (· exact cnt_info); simp only [Act.put, List.setIfInBounds_toArray, List.set_cons_zero, List.set_cons_succ])
    | ((with_reducible refine Plan.store_lit 24 (.tmp 4) _ (w.heap.size + 2) ?_ hr1 ?_ ?_ ?_ ?_ ?_ ?_); rotate_left; (· rfl); (· rfl); (· exact cnt_info); (· rfl); (· simp [Value.oneCell']); simp only [Act.put]))
  exact bodyPost_ret (Plan.results_cell_tmp (p := 4) (q := 5) rfl _ _ _ _ _ _ _ rfl (setRow_heap _ _ _ _ _ _ hr1) Try.underlying24 rfl cnt_info) rfl ⟨rfl, below_setRow b1 (show w.heap.size ≤ w.heap.size + 2 by omega) _⟩
set_option maxHeartbeats 1000000 in
set_option maxRecDepth 20000 in
theorem ifValid_no (F : Nat → Prop) (D : Cnt) (b b2 a a2 : Option Addr) (m d m2 d2 n c n2 c2 : Nat) (w : World) (hl : CList w F b m d b2 m2 d2 D) (hv : validC D = false) :
    Calls Try.prog 34 #[cntV b m d b2 m2 d2, cntV a n c a2 n2 c2] w fun r w' => r = .returned (.tuple #[cntV a n c a2 n2 c2, .bool false]) ∧ Below w.heap.size w w' := by
  have hA := (((Below.refl w.heap.size w).alloc (Nat.le_refl _) (cntRow b m d b2 m2 d2)).alloc (by simp) (cntRow a n c a2 n2 c2)).alloc (by simp; omega) (cntRow none 0 0 none 0 0)
  obtain ⟨hx0, hy0, hr0⟩ := heap3 w (cntRow b m d b2 m2 d2) (cntRow a n c a2 n2 c2) (cntRow none 0 0 none 0 0)
  have HV := Lib.hid (lvalid_any _ D b b2 m d m2 d2 _ (hl.on (Same.below hA)))
  rw [hv] at HV
  clear hl hv
  go_enter Try.func34, Try.ntmps34
  generalize hw0 : ((w.alloc (cntRow b m d b2 m2 d2)).alloc (cntRow a n c a2 n2 c2)).alloc (cntRow none 0 0 none 0 0) = w0 at *
  go_wp2_with (first
    | ((with_reducible refine Plan.load_lit 24 (.tmp 2) w.heap.size ?_ hx0 Try.underlying24 ?_ ?_ ?_); (· rfl); (· rfl); (· exact cnt_info); simp only [Act.put, List.setIfInBounds_toArray, List.set_cons_zero, List.set_cons_succ])
    | (go_at_call 22; ((with_reducible refine (HV.out).mono ?_); rintro r9 w1 ⟨rfl, h1⟩; have b1 := hA.trans (h1.mono hA.size); have hy1 := e_on h1 hy0 (e_lt hy0); have hr1 := e_on h1 hr0 (e_lt hr0); clear hx0 hy0 hr0))
    | ((with_reducible refine Plan.load_lit 24 (.tmp 3) (w.heap.size + 1) ?_ hy1 Try.underlying24 ?_ ?_ ?_); (· rfl); (· rfl); (· exact cnt_info); simp only [Act.put, List.setIfInBounds_toArray, List.set_cons_zero, List.set_cons_succ])
    | ((with_reducible refine Plan.store_lit 24 (.tmp 4) _ (w.heap.size + 2) ?_ hr1 ?_ ?_ ?_ ?_ ?_ ?_); rotate_left; (· rfl); (· rfl); (· exact cnt_info); (· rfl); (· simp [Value.oneCell']); simp only [Act.put]))
  exact bodyPost_ret (Plan.results_cell_tmp (p := 4) (q := 5) rfl _ _ _ _ _ _ _ rfl (setRow_heap _ _ _ _ _ _ hr1) Try.underlying24 rfl cnt_info) rfl ⟨rfl, below_setRow b1 (show w.heap.size ≤ w.heap.size + 2 by omega) _⟩
end Go.Proofs.Ytigmjpkhpoolkaa.Ents
