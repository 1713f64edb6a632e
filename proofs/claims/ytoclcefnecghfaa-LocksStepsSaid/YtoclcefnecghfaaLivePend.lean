
/- The walks of the library's Clone at numbers, and of the program's ifValid, pend, Begin, End of counters. -/
import Derived.Test.YtoclcefnecghfaaLivePLeaf
namespace Go.Proofs.Ytoclcefnecghfaa.Ents
open Go.RowKit Plan EntMath CntMath
/-- a list of numbers of the call's own, with its block -/
def OwnI (w : World) (B n : Nat) (Z : List Int) (r : Ending) (w' : World) : Prop :=
  ∃ g c, r = .returned (.slice (some ⟨g, 0, none⟩) n c) ∧ B ≤ g ∧ g < w'.heap.size ∧ w'.ownsRow B 3 1 (.slice (some ⟨g, 0, none⟩) n c) n (intC Z) ∧ Below B w w'
set_option maxHeartbeats 1000000 in
theorem iclone_any (F : Nat → Prop) (Z : List Int) (x : Addr) (n c : Nat) (w : World) (hl : IList w F (some x) n c Z) (hn : 0 < n) (hm : n ≤ 1000) :
    Calls Try.prog 28 #[.slice (some x) n c] w (OwnI w w.heap.size n Z) := by
  have hlen := hl.length
  obtain ⟨x', hx', hxl, hC⟩ := hl.some' hn
  obtain rfl := Option.some.inj hx'
  obtain ⟨i1, hi1, hy0, hy1, hy2⟩ := info_parts int_info
  have hA := (Below.refl w.heap.size w).alloc (Nat.le_refl _) (.cells #[] 3)
  have HC2 := Lib.hid (fun j u (hu : (intC Z)[j]? = some u) => (hA.cell (show (x.add j).block < w.heap.size by rw [ent_add_block]; exact hxl)).trans (intC_cell hC j u hu))
  have HC3 := Lib.hid (intC_flat Z)
  have HO3 := Lib.hid (ints_empty w (H := w.heap.size) rfl)
  have hCl : (intC Z).length = n := by rw [intC_len]; exact hlen
  have q22 : ∀ (w : World) (a : Option Addr) (n c n' c' : Nat), (binOp .eql 22 (.slice a n c) (.slice none n' c')).run Try.prog w = .ok (.bool a.isNone) w := fun w a n c n' c' => Lib.run_eql_slice_nil w _ _ a n c n' c' Try.underlying22
  unfold OwnI
  clear hl hC
  go_enter Try.func28, Try.ntmps28
  go_wp2_with (first
    | (at_builtin; refine wpList_append_lies _ rfl _ _ 22 rfl w.heap.size 3 i1 _ 1 8 Try.underlying22 hi1 hy0 hy1 hy2 rfl (by decide) _ 0 [] (by rfl) HO3.out x n c (intC Z) rfl (by omega) HC2.out HC3.out (by omega) (by unfold maxLen; omega) (by omega) (by simp) _ rfl ?_; intro g7 c7 w7 hown7 hgrow7 hat7 hlt7; rw [Nat.zero_add, List.nil_append] at hown7; have hg7 := hown7.lt g7 rfl; have b7 := hA.grown hgrow7 hA.size (fun z9 h9 => by have h8 := Option.some.inj (show some w.heap.size = some z9 from h9); omega)))
  go_ret
  exact ⟨g7, c7, rfl, hg7.1, hg7.2, hown7, b7⟩
end Go.Proofs.Ytoclcefnecghfaa.Ents
