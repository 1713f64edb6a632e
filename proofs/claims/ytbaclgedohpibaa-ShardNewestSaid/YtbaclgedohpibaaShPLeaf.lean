
/- The walks of the program's possible, blockOf, of the comparison and of the closure that index hands on. -/
import Derived.Test.YtbaclgedohpibaaEntApp
namespace Go.Proofs.Ytbaclgedohpibaa.Ents
open Go.RowKit Plan EntMath
set_option maxHeartbeats 1000000 in
theorem possible_any (e : Ent) (w : World) :
    Calls Try.prog 29 #[entV e] w fun r w' => r = .returned (.bool (okE e)) ∧ Below w.heap.size w w' := by
  have hy := (@ok_iff e).2
  have hn := @ok_not e
  generalize okE e = E at *
  obtain ⟨b, k, v, m, z, o⟩ := e
  try simp only at hy hn
  have HY := Lib.hid hy
  have HN := Lib.hid hn
  clear hy hn
  go_enter Try.func29, Try.ntmps29
  go_wp2
  all_goals go_ret
  all_goals exact ⟨e_b (by first | exact (HY.out (by omega)).symm | exact (HN.out (by omega)).symm | exact e_dec (fun h => HY.out (by omega)) (fun h => HN.out (by omega))), (Below.refl _ _).alloc (Nat.le_refl _) _⟩
set_option maxHeartbeats 1000000 in
theorem blockOf_any (e : Ent) (w : World) :
    Calls Try.prog 31 #[entV e] w fun r w' => r = .returned (.int .i64 e.block) ∧ Below w.heap.size w w' := by
  obtain ⟨b, k, v, m, z, o⟩ := e
  go_enter Try.func31, Try.ntmps31
  go_wp2
  go_ret
  exact ⟨rfl, (Below.refl _ _).alloc (Nat.le_refl _) _⟩
def cmpI (x y : Int) : Int := if x < y then -1 else if y < x then 1 else 0
theorem e_i {a b : Int} (h : a = b) : Ending.returned (.int .i64 a) = .returned (.int .i64 b) := by rw [h]
set_option maxHeartbeats 1000000 in
theorem isNaN_any (x : Int) (w : World) :
    Calls Try.prog 39 #[.int .i64 x] w fun r w' => r = .returned (.bool false) ∧ w' = w := by
  go_enter Try.func39, Try.ntmps39
  go_wp2
  go_ret
  exact ⟨by first | rfl | simp, rfl⟩
set_option maxHeartbeats 1000000 in
theorem compare_any (x y : Int) (w : World) :
    Calls Try.prog 36 #[.int .i64 x, .int .i64 y] w fun r w' => r = .returned (.int .i64 (cmpI x y)) ∧ w' = w := by
  have hc : cmpI x y = if x < y then -1 else if y < x then 1 else 0 := rfl
  generalize cmpI x y = C at *
  have HC := Lib.hid hc
  clear hc
  have h1 := Lib.hid (isNaN_any x)
  have h2 := Lib.hid (isNaN_any y)
  go_enter Try.func36, Try.ntmps36
  go_wp2_with (first
    | (go_at_call 39; ((with_reducible refine (h1.out _).mono ?_); rintro e w1 ⟨rfl, rfl⟩))
    | (go_at_call 39; ((with_reducible refine (h2.out _).mono ?_); rintro e w1 ⟨rfl, rfl⟩)))
  all_goals go_ret
  all_goals exact ⟨e_i (by rw [HC.out]; first | (rw [if_pos (by omega)]; done) | (rw [if_neg (by omega), if_pos (by omega)]; done) | (rw [if_neg (by omega), if_neg (by omega)]; done)), rfl⟩
/-- the function value that takes the key of an entry, in a box -/
abbrev keyRow : Obj := .cells #[.func (.func 31) #[] #[]] 57
theorem one_cell {w : World} {g : Nat} {a : Value} {t : TypeId} {fr : Nat × Nat} (h : w.heap[g]? = some (.cells #[a] t fr)) : w.cell? ⟨g, 0, none⟩ = some a := cell_of_row _ _ 0 _ _ _ h
set_option maxHeartbeats 1000000 in
theorem key_any (e : Ent) (b : Int) (p : Nat) (w : World) (h : w.heap[p]? = some keyRow) :
    Calls Try.prog 35 #[entV e, .int .i64 b, .pointer (some ⟨p, 0, none⟩)] w fun r w' => r = .returned (.int .i64 (cmpI e.block b)) ∧ Below w.heap.size w w' := by
  have hb := Lib.hid (blockOf_any e)
  have hc := Lib.hid (compare_any e.block b)
  generalize cmpI e.block b = C at *
  obtain ⟨eb, k, v, m, z, o⟩ := e
  try simp only at hb hc
  have hA := (Below.refl w.heap.size w).alloc (Nat.le_refl _) (entRow eb k v m z o)
  have hk := one_cell (e_al h (entRow eb k v m z o))
  have hr := heap_alloc_new w (entRow eb k v m z o)
  obtain ⟨c0, c1, c2, c3, c4, c5⟩ := entry_row hr
  go_enter Try.func35, Try.ntmps35
  generalize hw0 : w.alloc (entRow eb k v m z o) = w0 at *
  go_wp2_with (first
    | (go_at_call 31; ((with_reducible refine (hb.out _).mono ?_); rintro e9 w1 ⟨rfl, h1⟩; have b1 := hA.trans (h1.mono hA.size)))
    | (go_at_call 36; ((with_reducible refine (hc.out _).mono ?_); rintro e9 w2 ⟨rfl, rfl⟩)))
  go_ret
  exact ⟨rfl, b1⟩
end Go.Proofs.Ytbaclgedohpibaa.Ents
