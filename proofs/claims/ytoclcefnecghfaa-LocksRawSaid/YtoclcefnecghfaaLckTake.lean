
/- The walks of the document's Take and Give of locks. -/
import Derived.Test.YtoclcefnecghfaaLckSet
namespace Go.Proofs.Ytoclcefnecghfaa.Ents
open Go.RowKit Plan EntMath CntMath LckMath
/-- what a function that changes locks leaves -/
def LckPost (w : World) (F : Nat → Prop) (O : List Int) (B : Bool) (r : Ending) (w' : World) : Prop :=
  ∃ a n c, r = .returned (.tuple #[lckV a n c, .bool B]) ∧ IList w' (Plus F w.heap.size) a n c O ∧ Below w.heap.size w w'
set_option maxHeartbeats 8000000 in
set_option maxRecDepth 20000 in
theorem refTake_lck (F : Nat → Prop) (O : List Int) (s t : Int) (a : Option Addr) (n c : Nat) (w : World) (hl : IList w F a n c O) :
    Calls Try.prog 11 #[lckV a n c, .int .i64 s, .int .i64 t] w (LckPost w F (takeL O s t) (takeB O s t)) := by
  have hlen := hl.length
  have hA := ((Below.refl w.heap.size w).alloc (Nat.le_refl _) (lckRow a n c)).alloc (by simp) (lckRow none 0 0)
  have hx0 := heap_first w (lckRow a n c) (lckRow none 0 0)
  have hr0 := heap_second w (lckRow a n c) (lckRow none 0 0)
  have HEND := Lib.hid (fun W (h : Below w.heap.size w W) (cs : Array Value) => (show IList (W.setRow (w.heap.size + 1) cs) (Plus F w.heap.size) a n c O from
    ((hl.cut.on (Same.below (w' := W) h)).on (Same.row (r := w.heap.size + 1) (fun h9 => by have := h9.2; omega) cs)).mono (fun b _ h => .inl h.1)))
  have HF := Lib.hid (refFree_any _ O s a n c _ (hl.same hA))
  cases hfr : freeK O s
  · have h1 : takeB O s t = false := by unfold takeB; rw [hfr]; rfl
    have h2 : takeL O s t = O := by unfold takeL; rw [if_neg (by rw [h1]; decide)]
    rw [h1, h2]
    rw [hfr] at HF
    clear hl hfr h1 h2
    go_enter Try.func11, Try.ntmps11
    generalize hw0 : (w.alloc (lckRow a n c)).alloc (lckRow none 0 0) = w0 at *
    go_wp2_with (first
      | (go_at_call 19; ((with_reducible refine (HF.out).mono ?_); rintro r9 w1 ⟨rfl, h1⟩; have b1 := hA.trans (h1.mono hA.size); have hx1 := e_on h1 hx0 (e_lt hx0); have hr1 := e_on h1 hr0 (e_lt hr0); have c0 := one_row hx1))
      | ((with_reducible refine Plan.load_lit 24 (.tmp 3) (w.heap.size) ?_ hx0 Try.underlying24 ?_ ?_ ?_); (· rfl); (· rfl); (· exact lck_info); simp only [Act.put, List.setIfInBounds_toArray, List.set_cons_zero, List.set_cons_succ])
      | ((with_reducible refine Plan.load_lit 24 (.tmp 3) (w.heap.size) ?_ hx1 Try.underlying24 ?_ ?_ ?_); (· rfl); (· rfl); (· exact lck_info); simp only [Act.put, List.setIfInBounds_toArray, List.set_cons_zero, List.set_cons_succ])
      | ((with_reducible refine load_lit_gc 24 (.tmp 3) (w.heap.size) ?_ ?_ hx1 Try.underlying24 ?_ ?_ ?_); (· rfl); (· rfl); (· rfl); (· exact lck_info); simp only [Act.put, List.setIfInBounds_toArray, List.set_cons_zero, List.set_cons_succ])
      | ((with_reducible refine Plan.store_lit 24 (.tmp 6) _ (w.heap.size + 1) ?_ hr1 ?_ ?_ ?_ ?_ ?_ ?_); rotate_left; (· rfl); (· rfl); (· exact lck_info); (· rfl); (· simp [Value.oneCell']); simp only [Act.put])
      | ((with_reducible refine Plan.store_lit 24 (.tmp 6) _ (w.heap.size + 1) ?_ hr2 ?_ ?_ ?_ ?_ ?_ ?_); rotate_left; (· rfl); (· rfl); (· exact lck_info); (· rfl); (· simp [Value.oneCell']); simp only [Act.put])
      | (go_at_call 23; ((with_reducible refine (HS.out _ b1).mono ?_); rintro r9 w2 ⟨g2, c2, rfl, l2, h2⟩; have b2 := b1.trans (h2.mono b1.size); have hr2 := e_on h2 hr1 (e_lt hr1))))
    exact bodyPost_ret (Plan.results_cell_tmp (p := 6) (q := 7) rfl _ _ _ _ _ _ _ rfl (setRow_heap _ _ _ _ _ _ hr1) Try.underlying24 rfl lck_info) rfl ⟨_, _, _, rfl, HEND.out _ b1 _, below_setRow b1 (show w.heap.size ≤ w.heap.size + 1 by omega) _⟩
  · rw [hfr] at HF
    by_cases ht : 0 ≤ t
    · have hin : inK O s = true := by unfold freeK at hfr; rw [Bool.and_eq_true] at hfr; exact hfr.1
      obtain ⟨k, rfl, hk, hn8, x, z, rfl, hz, hc⟩ := lck_at hl hin
      have h1 : takeB O (k : Int) t = true := by unfold takeB; rw [hfr]; simpa using ht
      have h2 : takeL O (k : Int) t = O.set k t := by unfold takeL; rw [if_pos h1, Int.toNat_natCast]
      rw [h1, h2]
      have HS := Lib.hid (fun W (h : Below w.heap.size w W) => refLSet_any _ O (some x) n c k z t W (hl.same h) hz (by omega))
      have p1 : decide (t < 0) = false := by simp; omega
      clear hl hfr h1 h2 hin hz hc
      go_enter Try.func11, Try.ntmps11
      generalize hw0 : (w.alloc (lckRow (some x) n c)).alloc (lckRow none 0 0) = w0 at *
      go_wp2_with (first
        | (go_at_call 19; ((with_reducible refine (HF.out).mono ?_); rintro r9 w1 ⟨rfl, h1⟩; have b1 := hA.trans (h1.mono hA.size); have hx1 := e_on h1 hx0 (e_lt hx0); have hr1 := e_on h1 hr0 (e_lt hr0); have c0 := one_row hx1))
        | ((with_reducible refine Plan.load_lit 24 (.tmp 3) (w.heap.size) ?_ hx0 Try.underlying24 ?_ ?_ ?_); (· rfl); (· rfl); (· exact lck_info); simp only [Act.put, List.setIfInBounds_toArray, List.set_cons_zero, List.set_cons_succ])
        | ((with_reducible refine Plan.load_lit 24 (.tmp 3) (w.heap.size) ?_ hx1 Try.underlying24 ?_ ?_ ?_); (· rfl); (· rfl); (· exact lck_info); simp only [Act.put, List.setIfInBounds_toArray, List.set_cons_zero, List.set_cons_succ])
        | ((with_reducible refine load_lit_gc 24 (.tmp 3) (w.heap.size) ?_ ?_ hx1 Try.underlying24 ?_ ?_ ?_); (· rfl); (· rfl); (· rfl); (· exact lck_info); simp only [Act.put, List.setIfInBounds_toArray, List.set_cons_zero, List.set_cons_succ])
        | ((with_reducible refine Plan.store_lit 24 (.tmp 6) _ (w.heap.size + 1) ?_ hr1 ?_ ?_ ?_ ?_ ?_ ?_); rotate_left; (· rfl); (· rfl); (· exact lck_info); (· rfl); (· simp [Value.oneCell']); simp only [Act.put])
        | ((with_reducible refine Plan.store_lit 24 (.tmp 6) _ (w.heap.size + 1) ?_ hr2 ?_ ?_ ?_ ?_ ?_ ?_); rotate_left; (· rfl); (· rfl); (· exact lck_info); (· rfl); (· simp [Value.oneCell']); simp only [Act.put])
        | (go_at_call 23; ((with_reducible refine (HS.out _ b1).mono ?_); rintro r9 w2 ⟨g2, c2, rfl, l2, h2⟩; have b2 := b1.trans (h2.mono b1.size); have hr2 := e_on h2 hr1 (e_lt hr1))))
      have l9 := (l2.on (Same.row (r := w.heap.size + 1) (fun h => by have h8 : w1.heap.size ≤ w.heap.size + 1 := h; have h7 := e_lt hr1; omega) #[.slice (some ⟨g2, 0, none⟩) n c2])).mono (G := Plus F w.heap.size) (fun b _ h => .inr (by have h8 : w1.heap.size ≤ b := h; have h7 := b1.size; omega))
      exact bodyPost_ret (Plan.results_cell_tmp (p := 6) (q := 7) rfl _ _ _ _ _ _ _ rfl (setRow_heap _ _ _ _ _ _ hr2) Try.underlying24 rfl lck_info) rfl ⟨_, _, _, rfl, l9, below_setRow b2 (show w.heap.size ≤ w.heap.size + 1 by omega) _⟩
    · have h1 : takeB O s t = false := by unfold takeB; rw [hfr]; simp; omega
      have h2 : takeL O s t = O := by unfold takeL; rw [if_neg (by rw [h1]; decide)]
      rw [h1, h2]
      have p1 : decide (t < 0) = true := by simp; omega
      clear hl hfr h1 h2
      go_enter Try.func11, Try.ntmps11
      generalize hw0 : (w.alloc (lckRow a n c)).alloc (lckRow none 0 0) = w0 at *
      go_wp2_with (first
        | (go_at_call 19; ((with_reducible refine (HF.out).mono ?_); rintro r9 w1 ⟨rfl, h1⟩; have b1 := hA.trans (h1.mono hA.size); have hx1 := e_on h1 hx0 (e_lt hx0); have hr1 := e_on h1 hr0 (e_lt hr0); have c0 := one_row hx1))
        | ((with_reducible refine Plan.load_lit 24 (.tmp 3) (w.heap.size) ?_ hx0 Try.underlying24 ?_ ?_ ?_); (· rfl); (· rfl); (· exact lck_info); simp only [Act.put, List.setIfInBounds_toArray, List.set_cons_zero, List.set_cons_succ])
        | ((with_reducible refine Plan.load_lit 24 (.tmp 3) (w.heap.size) ?_ hx1 Try.underlying24 ?_ ?_ ?_); (· rfl); (· rfl); (· exact lck_info); simp only [Act.put, List.setIfInBounds_toArray, List.set_cons_zero, List.set_cons_succ])
        | ((with_reducible refine load_lit_gc 24 (.tmp 3) (w.heap.size) ?_ ?_ hx1 Try.underlying24 ?_ ?_ ?_); (· rfl); (· rfl); (· rfl); (· exact lck_info); simp only [Act.put, List.setIfInBounds_toArray, List.set_cons_zero, List.set_cons_succ])
        | ((with_reducible refine Plan.store_lit 24 (.tmp 6) _ (w.heap.size + 1) ?_ hr1 ?_ ?_ ?_ ?_ ?_ ?_); rotate_left; (· rfl); (· rfl); (· exact lck_info); (· rfl); (· simp [Value.oneCell']); simp only [Act.put])
        | ((with_reducible refine Plan.store_lit 24 (.tmp 6) _ (w.heap.size + 1) ?_ hr2 ?_ ?_ ?_ ?_ ?_ ?_); rotate_left; (· rfl); (· rfl); (· exact lck_info); (· rfl); (· simp [Value.oneCell']); simp only [Act.put])
        | (go_at_call 23; ((with_reducible refine (HS.out _ b1).mono ?_); rintro r9 w2 ⟨g2, c2, rfl, l2, h2⟩; have b2 := b1.trans (h2.mono b1.size); have hr2 := e_on h2 hr1 (e_lt hr1))))
      exact bodyPost_ret (Plan.results_cell_tmp (p := 6) (q := 7) rfl _ _ _ _ _ _ _ rfl (setRow_heap _ _ _ _ _ _ hr1) Try.underlying24 rfl lck_info) rfl ⟨_, _, _, rfl, HEND.out _ b1 _, below_setRow b1 (show w.heap.size ≤ w.heap.size + 1 by omega) _⟩
set_option maxHeartbeats 8000000 in
set_option maxRecDepth 20000 in
theorem refGive_lck (F : Nat → Prop) (O : List Int) (s t : Int) (a : Option Addr) (n c : Nat) (w : World) (hl : IList w F a n c O) :
    Calls Try.prog 12 #[lckV a n c, .int .i64 s, .int .i64 t] w (LckPost w F (giveL O s t) (giveB O s t)) := by
  have hlen := hl.length
  have hA := ((Below.refl w.heap.size w).alloc (Nat.le_refl _) (lckRow a n c)).alloc (by simp) (lckRow none 0 0)
  have hx0 := heap_first w (lckRow a n c) (lckRow none 0 0)
  have hr0 := heap_second w (lckRow a n c) (lckRow none 0 0)
  have HEND := Lib.hid (fun W (h : Below w.heap.size w W) (cs : Array Value) => (show IList (W.setRow (w.heap.size + 1) cs) (Plus F w.heap.size) a n c O from
    ((hl.cut.on (Same.below (w' := W) h)).on (Same.row (r := w.heap.size + 1) (fun h9 => by have := h9.2; omega) cs)).mono (fun b _ h => .inl h.1)))
  have HF := Lib.hid (refLValid_any _ O a n c _ (hl.same hA))
  cases hin : inK O s
  · have h1 : giveB O s t = false := by unfold giveB; rw [hin]; rfl
    have h2 : giveL O s t = O := by unfold giveL; rw [if_neg (by rw [h1]; decide)]
    rw [h1, h2]
    have h3 := in_three hlen hin
    clear hl hin h1 h2
    rcases h3 with h3 | ⟨h3, h4⟩ | ⟨h3, h4, h5⟩
    · rw [h3] at HF
      clear h3
      go_enter Try.func12, Try.ntmps12
      generalize hw0 : (w.alloc (lckRow a n c)).alloc (lckRow none 0 0) = w0 at *
      go_wp2_with (first
        | (go_at_call 17; ((with_reducible refine (HF.out).mono ?_); rintro r9 w1 ⟨rfl, h1⟩; have b1 := hA.trans (h1.mono hA.size); have hx1 := e_on h1 hx0 (e_lt hx0); have hr1 := e_on h1 hr0 (e_lt hr0); have c0 := one_row hx1))
        | ((with_reducible refine Plan.load_lit 24 (.tmp 3) (w.heap.size) ?_ hx0 Try.underlying24 ?_ ?_ ?_); (· rfl); (· rfl); (· exact lck_info); simp only [Act.put, List.setIfInBounds_toArray, List.set_cons_zero, List.set_cons_succ])
        | ((with_reducible refine Plan.load_lit 24 (.tmp 3) (w.heap.size) ?_ hx1 Try.underlying24 ?_ ?_ ?_); (· rfl); (· rfl); (· exact lck_info); simp only [Act.put, List.setIfInBounds_toArray, List.set_cons_zero, List.set_cons_succ])
        | ((with_reducible refine load_lit_gc 24 (.tmp 3) (w.heap.size) ?_ ?_ hx1 Try.underlying24 ?_ ?_ ?_); (· rfl); (· rfl); (· rfl); (· exact lck_info); simp only [Act.put, List.setIfInBounds_toArray, List.set_cons_zero, List.set_cons_succ])
        | ((with_reducible refine Plan.store_lit 24 (.tmp 6) _ (w.heap.size + 1) ?_ hr1 ?_ ?_ ?_ ?_ ?_ ?_); rotate_left; (· rfl); (· rfl); (· exact lck_info); (· rfl); (· simp [Value.oneCell']); simp only [Act.put])
        | ((with_reducible refine Plan.store_lit 24 (.tmp 6) _ (w.heap.size + 1) ?_ hr2 ?_ ?_ ?_ ?_ ?_ ?_); rotate_left; (· rfl); (· rfl); (· exact lck_info); (· rfl); (· simp [Value.oneCell']); simp only [Act.put]))
      exact bodyPost_ret (Plan.results_cell_tmp (p := 6) (q := 7) rfl _ _ _ _ _ _ _ rfl (setRow_heap _ _ _ _ _ _ hr1) Try.underlying24 rfl lck_info) rfl ⟨_, _, _, rfl, HEND.out _ b1 _, below_setRow b1 (show w.heap.size ≤ w.heap.size + 1 by omega) _⟩
    · rw [h3] at HF
      clear h3
      have p1 : decide (s < 0) = true := by simpa using h4
      go_enter Try.func12, Try.ntmps12
      generalize hw0 : (w.alloc (lckRow a n c)).alloc (lckRow none 0 0) = w0 at *
      go_wp2_with (first
        | (go_at_call 17; ((with_reducible refine (HF.out).mono ?_); rintro r9 w1 ⟨rfl, h1⟩; have b1 := hA.trans (h1.mono hA.size); have hx1 := e_on h1 hx0 (e_lt hx0); have hr1 := e_on h1 hr0 (e_lt hr0); have c0 := one_row hx1))
        | ((with_reducible refine Plan.load_lit 24 (.tmp 3) (w.heap.size) ?_ hx0 Try.underlying24 ?_ ?_ ?_); (· rfl); (· rfl); (· exact lck_info); simp only [Act.put, List.setIfInBounds_toArray, List.set_cons_zero, List.set_cons_succ])
        | ((with_reducible refine Plan.load_lit 24 (.tmp 3) (w.heap.size) ?_ hx1 Try.underlying24 ?_ ?_ ?_); (· rfl); (· rfl); (· exact lck_info); simp only [Act.put, List.setIfInBounds_toArray, List.set_cons_zero, List.set_cons_succ])
        | ((with_reducible refine load_lit_gc 24 (.tmp 3) (w.heap.size) ?_ ?_ hx1 Try.underlying24 ?_ ?_ ?_); (· rfl); (· rfl); (· rfl); (· exact lck_info); simp only [Act.put, List.setIfInBounds_toArray, List.set_cons_zero, List.set_cons_succ])
        | ((with_reducible refine Plan.store_lit 24 (.tmp 6) _ (w.heap.size + 1) ?_ hr1 ?_ ?_ ?_ ?_ ?_ ?_); rotate_left; (· rfl); (· rfl); (· exact lck_info); (· rfl); (· simp [Value.oneCell']); simp only [Act.put])
        | ((with_reducible refine Plan.store_lit 24 (.tmp 6) _ (w.heap.size + 1) ?_ hr2 ?_ ?_ ?_ ?_ ?_ ?_); rotate_left; (· rfl); (· rfl); (· exact lck_info); (· rfl); (· simp [Value.oneCell']); simp only [Act.put]))
      exact bodyPost_ret (Plan.results_cell_tmp (p := 6) (q := 7) rfl _ _ _ _ _ _ _ rfl (setRow_heap _ _ _ _ _ _ hr1) Try.underlying24 rfl lck_info) rfl ⟨_, _, _, rfl, HEND.out _ b1 _, below_setRow b1 (show w.heap.size ≤ w.heap.size + 1 by omega) _⟩
    · rw [h3] at HF
      clear h3
      have p1 : decide (s < 0) = false := by simp; omega
      have p2 : decide ((n : Int) ≤ s) = true := by simpa using h5
      go_enter Try.func12, Try.ntmps12
      generalize hw0 : (w.alloc (lckRow a n c)).alloc (lckRow none 0 0) = w0 at *
      go_wp2_with (first
        | (go_at_call 17; ((with_reducible refine (HF.out).mono ?_); rintro r9 w1 ⟨rfl, h1⟩; have b1 := hA.trans (h1.mono hA.size); have hx1 := e_on h1 hx0 (e_lt hx0); have hr1 := e_on h1 hr0 (e_lt hr0); have c0 := one_row hx1))
        | ((with_reducible refine Plan.load_lit 24 (.tmp 3) (w.heap.size) ?_ hx0 Try.underlying24 ?_ ?_ ?_); (· rfl); (· rfl); (· exact lck_info); simp only [Act.put, List.setIfInBounds_toArray, List.set_cons_zero, List.set_cons_succ])
        | ((with_reducible refine Plan.load_lit 24 (.tmp 3) (w.heap.size) ?_ hx1 Try.underlying24 ?_ ?_ ?_); (· rfl); (· rfl); (· exact lck_info); simp only [Act.put, List.setIfInBounds_toArray, List.set_cons_zero, List.set_cons_succ])
        | ((with_reducible refine load_lit_gc 24 (.tmp 3) (w.heap.size) ?_ ?_ hx1 Try.underlying24 ?_ ?_ ?_); (· rfl); (· rfl); (· rfl); (· exact lck_info); simp only [Act.put, List.setIfInBounds_toArray, List.set_cons_zero, List.set_cons_succ])
        | ((with_reducible refine Plan.store_lit 24 (.tmp 6) _ (w.heap.size + 1) ?_ hr1 ?_ ?_ ?_ ?_ ?_ ?_); rotate_left; (· rfl); (· rfl); (· exact lck_info); (· rfl); (· simp [Value.oneCell']); simp only [Act.put])
        | ((with_reducible refine Plan.store_lit 24 (.tmp 6) _ (w.heap.size + 1) ?_ hr2 ?_ ?_ ?_ ?_ ?_ ?_); rotate_left; (· rfl); (· rfl); (· exact lck_info); (· rfl); (· simp [Value.oneCell']); simp only [Act.put]))
      exact bodyPost_ret (Plan.results_cell_tmp (p := 6) (q := 7) rfl _ _ _ _ _ _ _ rfl (setRow_heap _ _ _ _ _ _ hr1) Try.underlying24 rfl lck_info) rfl ⟨_, _, _, rfl, HEND.out _ b1 _, below_setRow b1 (show w.heap.size ≤ w.heap.size + 1 by omega) _⟩
  · obtain ⟨k, rfl, hk, hn8, x, z, rfl, hz, hc⟩ := lck_at hl hin
    rw [(in_k.1 hin).1] at HF
    have hkI : (k : Int) < (n : Int) := by omega
    have hkN : ¬ (n : Int) ≤ (k : Int) := by omega
    have p0 : decide ((n : Int) ≤ (k : Int)) = false := by simpa using hkN
    have p9 : decide (n ≤ k) = false := by simp; omega
    have hxl : x.block < w.heap.size := by have := World.block_lt_of_cell? w _ hc; rwa [ent_add_block] at this
    have HC := Lib.hid (fun W (h : Below w.heap.size w W) => (h.cell (p := x.add k) (by rw [ent_add_block]; exact hxl)).trans hc)
    have hgb : giveB O (k : Int) t = (decide (0 ≤ t) && decide (z = t)) := by unfold giveB; rw [hin, Int.toNat_natCast, getD_at hz]; rfl
    by_cases ht : 0 ≤ t
    · have p1 : decide (t < 0) = false := by simp; omega
      by_cases hq : z = t
      · subst hq
        have h1 : giveB O (k : Int) z = true := by rw [hgb]; simpa using ht
        have h2 : giveL O (k : Int) z = O.set k (-1) := by unfold giveL; rw [if_pos h1, Int.toNat_natCast]
        rw [h1, h2]
        have HS := Lib.hid (fun W (h : Below w.heap.size w W) => refLSet_any _ O (some x) n c k z (-1) W (hl.same h) hz (by omega))
        clear hl h1 h2 hin hz hc hgb
        go_enter Try.func12, Try.ntmps12
        generalize hw0 : (w.alloc (lckRow (some x) n c)).alloc (lckRow none 0 0) = w0 at *
        go_wp2_with (first
          | (go_at_call 17; ((with_reducible refine (HF.out).mono ?_); rintro r9 w1 ⟨rfl, h1⟩; have b1 := hA.trans (h1.mono hA.size); have hx1 := e_on h1 hx0 (e_lt hx0); have hr1 := e_on h1 hr0 (e_lt hr0); have c0 := one_row hx1; have hc9 := HC.out _ b1))
          | ((with_reducible refine Plan.load_lit 24 (.tmp 3) (w.heap.size) ?_ hx0 Try.underlying24 ?_ ?_ ?_); (· rfl); (· rfl); (· exact lck_info); simp only [Act.put, List.setIfInBounds_toArray, List.set_cons_zero, List.set_cons_succ])
          | ((with_reducible refine Plan.load_lit 24 (.tmp 3) (w.heap.size) ?_ hx1 Try.underlying24 ?_ ?_ ?_); (· rfl); (· rfl); (· exact lck_info); simp only [Act.put, List.setIfInBounds_toArray, List.set_cons_zero, List.set_cons_succ])
          | ((with_reducible refine load_lit_gc 24 (.tmp 3) (w.heap.size) ?_ ?_ hx1 Try.underlying24 ?_ ?_ ?_); (· rfl); (· rfl); (· rfl); (· exact lck_info); simp only [Act.put, List.setIfInBounds_toArray, List.set_cons_zero, List.set_cons_succ])
          | ((with_reducible refine Plan.store_lit 24 (.tmp 6) _ (w.heap.size + 1) ?_ hr1 ?_ ?_ ?_ ?_ ?_ ?_); rotate_left; (· rfl); (· rfl); (· exact lck_info); (· rfl); (· simp [Value.oneCell']); simp only [Act.put])
          | ((with_reducible refine Plan.store_lit 24 (.tmp 6) _ (w.heap.size + 1) ?_ hr2 ?_ ?_ ?_ ?_ ?_ ?_); rotate_left; (· rfl); (· rfl); (· exact lck_info); (· rfl); (· simp [Value.oneCell']); simp only [Act.put])
          | (go_at_call 23; ((with_reducible refine (HS.out _ b1).mono ?_); rintro r9 w2 ⟨g2, c2, rfl, l2, h2⟩; have b2 := b1.trans (h2.mono b1.size); have hr2 := e_on h2 hr1 (e_lt hr1))))
        have l9 := (l2.on (Same.row (r := w.heap.size + 1) (fun h => by have h8 : w1.heap.size ≤ w.heap.size + 1 := h; have h7 := e_lt hr1; omega) #[.slice (some ⟨g2, 0, none⟩) n c2])).mono (G := Plus F w.heap.size) (fun b _ h => .inr (by have h8 : w1.heap.size ≤ b := h; have h7 := b1.size; omega))
        exact bodyPost_ret (Plan.results_cell_tmp (p := 6) (q := 7) rfl _ _ _ _ _ _ _ rfl (setRow_heap _ _ _ _ _ _ hr2) Try.underlying24 rfl lck_info) rfl ⟨_, _, _, rfl, l9, below_setRow b2 (show w.heap.size ≤ w.heap.size + 1 by omega) _⟩
      · have h1 : giveB O (k : Int) t = false := by rw [hgb]; simp [hq]
        have h2 : giveL O (k : Int) t = O := by unfold giveL; rw [if_neg (by rw [h1]; decide)]
        rw [h1, h2]
        have p2 : (z != t) = true := by simpa using hq
        have p3 : decide (z = t) = false := by simpa using hq
        clear hl h1 h2 hin hz hc hgb
        go_enter Try.func12, Try.ntmps12
        generalize hw0 : (w.alloc (lckRow (some x) n c)).alloc (lckRow none 0 0) = w0 at *
        go_wp2_with (first
          | (go_at_call 17; ((with_reducible refine (HF.out).mono ?_); rintro r9 w1 ⟨rfl, h1⟩; have b1 := hA.trans (h1.mono hA.size); have hx1 := e_on h1 hx0 (e_lt hx0); have hr1 := e_on h1 hr0 (e_lt hr0); have c0 := one_row hx1; have hc9 := HC.out _ b1))
          | ((with_reducible refine Plan.load_lit 24 (.tmp 3) (w.heap.size) ?_ hx0 Try.underlying24 ?_ ?_ ?_); (· rfl); (· rfl); (· exact lck_info); simp only [Act.put, List.setIfInBounds_toArray, List.set_cons_zero, List.set_cons_succ])
          | ((with_reducible refine Plan.load_lit 24 (.tmp 3) (w.heap.size) ?_ hx1 Try.underlying24 ?_ ?_ ?_); (· rfl); (· rfl); (· exact lck_info); simp only [Act.put, List.setIfInBounds_toArray, List.set_cons_zero, List.set_cons_succ])
          | ((with_reducible refine load_lit_gc 24 (.tmp 3) (w.heap.size) ?_ ?_ hx1 Try.underlying24 ?_ ?_ ?_); (· rfl); (· rfl); (· rfl); (· exact lck_info); simp only [Act.put, List.setIfInBounds_toArray, List.set_cons_zero, List.set_cons_succ])
          | ((with_reducible refine Plan.store_lit 24 (.tmp 6) _ (w.heap.size + 1) ?_ hr1 ?_ ?_ ?_ ?_ ?_ ?_); rotate_left; (· rfl); (· rfl); (· exact lck_info); (· rfl); (· simp [Value.oneCell']); simp only [Act.put])
          | ((with_reducible refine Plan.store_lit 24 (.tmp 6) _ (w.heap.size + 1) ?_ hr2 ?_ ?_ ?_ ?_ ?_ ?_); rotate_left; (· rfl); (· rfl); (· exact lck_info); (· rfl); (· simp [Value.oneCell']); simp only [Act.put])
          | (go_at_call 23; ((with_reducible refine (HS.out _ b1).mono ?_); rintro r9 w2 ⟨g2, c2, rfl, l2, h2⟩; have b2 := b1.trans (h2.mono b1.size); have hr2 := e_on h2 hr1 (e_lt hr1))))
        exact bodyPost_ret (Plan.results_cell_tmp (p := 6) (q := 7) rfl _ _ _ _ _ _ _ rfl (setRow_heap _ _ _ _ _ _ hr1) Try.underlying24 rfl lck_info) rfl ⟨_, _, _, rfl, HEND.out _ b1 _, below_setRow b1 (show w.heap.size ≤ w.heap.size + 1 by omega) _⟩
    · have h1 : giveB O (k : Int) t = false := by rw [hgb]; simp; omega
      have h2 : giveL O (k : Int) t = O := by unfold giveL; rw [if_neg (by rw [h1]; decide)]
      rw [h1, h2]
      have p1 : decide (t < 0) = true := by simp; omega
      clear hl h1 h2 hin hz hc hgb
      go_enter Try.func12, Try.ntmps12
      generalize hw0 : (w.alloc (lckRow (some x) n c)).alloc (lckRow none 0 0) = w0 at *
      go_wp2_with (first
        | (go_at_call 17; ((with_reducible refine (HF.out).mono ?_); rintro r9 w1 ⟨rfl, h1⟩; have b1 := hA.trans (h1.mono hA.size); have hx1 := e_on h1 hx0 (e_lt hx0); have hr1 := e_on h1 hr0 (e_lt hr0); have c0 := one_row hx1; have hc9 := HC.out _ b1))
        | ((with_reducible refine Plan.load_lit 24 (.tmp 3) (w.heap.size) ?_ hx0 Try.underlying24 ?_ ?_ ?_); (· rfl); (· rfl); (· exact lck_info); simp only [Act.put, List.setIfInBounds_toArray, List.set_cons_zero, List.set_cons_succ])
        | ((with_reducible refine Plan.load_lit 24 (.tmp 3) (w.heap.size) ?_ hx1 Try.underlying24 ?_ ?_ ?_); (· rfl); (· rfl); (· exact lck_info); simp only [Act.put, List.setIfInBounds_toArray, List.set_cons_zero, List.set_cons_succ])
        | ((with_reducible refine load_lit_gc 24 (.tmp 3) (w.heap.size) ?_ ?_ hx1 Try.underlying24 ?_ ?_ ?_); (· rfl); (· rfl); (· rfl); (· exact lck_info); simp only [Act.put, List.setIfInBounds_toArray, List.set_cons_zero, List.set_cons_succ])
        | ((with_reducible refine Plan.store_lit 24 (.tmp 6) _ (w.heap.size + 1) ?_ hr1 ?_ ?_ ?_ ?_ ?_ ?_); rotate_left; (· rfl); (· rfl); (· exact lck_info); (· rfl); (· simp [Value.oneCell']); simp only [Act.put])
        | ((with_reducible refine Plan.store_lit 24 (.tmp 6) _ (w.heap.size + 1) ?_ hr2 ?_ ?_ ?_ ?_ ?_ ?_); rotate_left; (· rfl); (· rfl); (· exact lck_info); (· rfl); (· simp [Value.oneCell']); simp only [Act.put])
        | (go_at_call 23; ((with_reducible refine (HS.out _ b1).mono ?_); rintro r9 w2 ⟨g2, c2, rfl, l2, h2⟩; have b2 := b1.trans (h2.mono b1.size); have hr2 := e_on h2 hr1 (e_lt hr1))))
      exact bodyPost_ret (Plan.results_cell_tmp (p := 6) (q := 7) rfl _ _ _ _ _ _ _ rfl (setRow_heap _ _ _ _ _ _ hr1) Try.underlying24 rfl lck_info) rfl ⟨_, _, _, rfl, HEND.out _ b1 _, below_setRow b1 (show w.heap.size ≤ w.heap.size + 1 by omega) _⟩
end Go.Proofs.Ytoclcefnecghfaa.Ents
