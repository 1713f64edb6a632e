
/- The walks of the document's New and Same of rings. -/
import Derived.Test.YtljdepnhhngbeaaRingIs
namespace Go.Proofs.Ytljdepnhhngbeaa.RingMath
def newE (d : Int) : Int := if d < 1 ∨ 8 < d then 1 else 0
def newD (d : Int) : Int := if d < 1 ∨ 8 < d then 0 else d
/-- two requests, as Go compares them -/
def sameQ (x y : Rq) : Bool := x.serial == y.serial && x.kind == y.kind && x.block == y.block && x.data == y.data
end Go.Proofs.Ytljdepnhhngbeaa.RingMath
namespace Go.Proofs.Ytljdepnhhngbeaa.Ents
open Go.RowKit Plan RingMath Rws
/-- what a function that gives a ring and an error leaves -/
def GPost (w : World) (F : Nat → Prop) (d : Int) (L : List Rq) (e : Int) (r : Ending) (w' : World) : Prop :=
  ∃ a n c, r = .returned (.tuple #[rgV d a n c, .int .i64 e]) ∧ GList w' (fun b => F b ∨ w.heap.size ≤ b) a n c L ∧ Below w.heap.size w w'
set_option maxHeartbeats 4000000 in
set_option maxRecDepth 20000 in
theorem refGNew_any (F : Nat → Prop) (d : Int) (w : World) :
    Calls Try.prog 7 #[.int .i64 d] w (GPost w F (newD d) [] (newE d)) := by
  have hA := (Below.refl w.heap.size w).alloc (Nat.le_refl _) (rgRow 0 none 0 0)
  have hr := heap_alloc_new w (rgRow 0 none 0 0)
  unfold GPost newD newE
  by_cases h : d < 1 ∨ 8 < d
  · rw [if_pos h, if_pos h]
    rcases h with h | h
    · skip
      go_enter Try.func7, Try.ntmps7
      go_wp2_with (first | ((with_reducible refine Plan.store_lit 24 (.tmp 2) _ w.heap.size #[.int .i64 0, .slice none 0 0] hr ?_ ?_ ?_ ?_ ?_ ?_); rotate_left; (· rfl); (· exact rg_info); (· rfl); (· simp [Value.oneCell']); rotate_left; (· rfl); simp only [Act.put]))
      exact bodyPost_ret (Plan.results_cell_tmp (p := 2) (q := 3) rfl _ _ _ _ _ _ _ rfl (setRow_heap _ _ _ #[.int .i64 0, .slice none 0 0] _ _ hr) Try.underlying24 rfl rg_info) rfl ⟨none, 0, 0, rfl, TList.nil _ _, below_setRow hA (Nat.le_refl _) _⟩
    · have h2 : ¬ d < 1 := by omega
      go_enter Try.func7, Try.ntmps7
      go_wp2_with (first | ((with_reducible refine Plan.store_lit 24 (.tmp 2) _ w.heap.size #[.int .i64 0, .slice none 0 0] hr ?_ ?_ ?_ ?_ ?_ ?_); rotate_left; (· rfl); (· exact rg_info); (· rfl); (· simp [Value.oneCell']); rotate_left; (· rfl); simp only [Act.put]))
      exact bodyPost_ret (Plan.results_cell_tmp (p := 2) (q := 3) rfl _ _ _ _ _ _ _ rfl (setRow_heap _ _ _ #[.int .i64 0, .slice none 0 0] _ _ hr) Try.underlying24 rfl rg_info) rfl ⟨none, 0, 0, rfl, TList.nil _ _, below_setRow hA (Nat.le_refl _) _⟩
  · rw [if_neg h, if_neg h]
    have h1 : ¬ d < 1 := by omega
    have h2 : ¬ 8 < d := by omega
    clear h
    go_enter Try.func7, Try.ntmps7
    go_wp2_with (first | ((with_reducible refine Plan.store_lit 24 (.tmp 2) _ w.heap.size #[.int .i64 d, .slice none 0 0] hr ?_ ?_ ?_ ?_ ?_ ?_); rotate_left; (· rfl); (· exact rg_info); (· rfl); (· simp [Value.oneCell']); rotate_left; (· rfl); simp only [Act.put]))
    exact bodyPost_ret (Plan.results_cell_tmp (p := 2) (q := 3) rfl _ _ _ _ _ _ _ rfl (setRow_heap _ _ _ #[.int .i64 d, .slice none 0 0] _ _ hr) Try.underlying24 rfl rg_info) rfl ⟨none, 0, 0, rfl, TList.nil _ _, below_setRow hA (Nat.le_refl _) _⟩
end Go.Proofs.Ytljdepnhhngbeaa.Ents
