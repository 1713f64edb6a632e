
/- The walks of the document's New, Begin, End, Clear of counters. -/
import Derived.Test.YtljdepnhhngbeaaCntIs
import Derived.Test.YtljdepnhhngbeaaBaseTree
namespace Go.Proofs.Ytljdepnhhngbeaa.Ents
open Go.RowKit Plan EntMath CntMath
theorem made_zero (w : World) {n j : Nat} (hj : j < n) : (madeCells #[(.int .i64 0 : Value)] n)[j]? = some (.int .i64 0) := by
  have h1 := (World.rowIs_made w (.int .i64 0) n 3).cell hj
  have h2 := cell_of_row (w.alloc (.cells (madeCells #[(.int .i64 0 : Value)] n) 3)) w.heap.size j _ _ _ (heap_alloc_new w _)
  rw [h1] at h2
  exact h2.symm
abbrev zeroRow (n : Nat) : Obj := .cells (madeCells #[(.int .i64 0 : Value)] n) 3
theorem zeros_ilist {w : World} {F : Nat → Prop} {g n : Nat} (h : w.heap[g]? = some (zeroRow n)) (hn : n ≤ maxLen) (hF : F g) : IList w F (some ⟨g, 0, none⟩) n n (List.replicate n 0) := by
  refine .inr ⟨_, rfl, Nat.le_refl _, hn, by simp, e_lt h, hF, fun j z hz => ?_⟩
  have hj := (List.getElem?_eq_some_iff.1 hz).1
  rw [List.length_replicate] at hj
  rw [List.getElem?_replicate, if_pos hj] at hz
  obtain rfl := Option.some.inj hz
  have h2 := cell_of_row w g j _ _ _ h
  rw [made_zero w hj] at h2
  rw [Addr.add_lit, Nat.zero_add]
  exact h2
/-- what New leaves -/
def CNewPost (w : World) (C : Cnt) (E : Int) (r : Ending) (w' : World) : Prop :=
  ∃ a n c a2 n2 c2, r = .returned (.tuple #[cntV a n c a2 n2 c2, .int .i64 E]) ∧ CList w' (fun b => w.heap.size ≤ b) a n c a2 n2 c2 C ∧ Below w.heap.size w w'
theorem int_row : (Try.prog.info? 3).map (fun i => (i.zero, i.size, i.bytes)) = some (some (.int .i64 0), 1, 8) := int_info
/-- what New leaves where it makes counters: two different blocks of zeros -/
def CNewTwo (w : World) (n : Nat) (r : Ending) (w' : World) : Prop :=
  ∃ g g2, w.heap.size ≤ g ∧ w.heap.size ≤ g2 ∧ g ≠ g2 ∧ r = .returned (.tuple #[cntV (some ⟨g, 0, none⟩) n n (some ⟨g2, 0, none⟩) n n, .int .i64 0]) ∧ w'.heap[g]? = some (zeroRow n) ∧ w'.heap[g2]? = some (zeroRow n) ∧ Below w.heap.size w w'
/-- what a function that changes counters leaves -/
def CntPost (w : World) (F : Nat → Prop) (C : Cnt) (B : Bool) (r : Ending) (w' : World) : Prop :=
  ∃ a n c a2 n2 c2, r = .returned (.tuple #[cntV a n c a2 n2 c2, .bool B]) ∧ CList w' (Plus F w.heap.size) a n c a2 n2 c2 C ∧ Below w.heap.size w w'
theorem has_no {C : Cnt} {z : Int} (h : hasC C z = false) : (beginC C z = C ∧ beginB C z = false) ∧ (endC C z = C ∧ endB C z = false) ∧ clearB C z = false := by
  have h1 : beginB C z = false := by unfold beginB; rw [h]; rfl
  have h2 : endB C z = false := by unfold endB; rw [h]; rfl
  exact ⟨⟨by unfold beginC; rw [h1]; rfl, h1⟩, ⟨by unfold endC; rw [h2]; rfl, h2⟩, by unfold clearB; rw [h]; rfl⟩
theorem begin_is {C : Cnt} {k : Nat} {p : Int} (h : hasC C (k : Int) = true) (hp : C.pend[k]? = some p) : beginB C (k : Int) = decide (p ≠ 1099511627776) ∧ beginC C (k : Int) = if p = 1099511627776 then C else ⟨C.live, plusL C.pend k 1⟩ := by
  have h1 : beginB C (k : Int) = decide (p ≠ 1099511627776) := by unfold beginB; rw [h, Int.toNat_natCast, getD_at hp]; rfl
  refine ⟨h1, ?_⟩
  unfold beginC
  rw [h1]
  by_cases hq : p = 1099511627776
  · rw [if_pos hq, if_neg (by simpa using hq)]
  · rw [if_neg hq, if_pos (by simpa using hq)]
    rfl
theorem end_is {C : Cnt} {k : Nat} {p : Int} (h : hasC C (k : Int) = true) (hp : C.pend[k]? = some p) : endB C (k : Int) = decide (p ≠ 0) ∧ endC C (k : Int) = if p = 0 then C else ⟨C.live, plusL C.pend k (-1)⟩ := by
  have h1 : endB C (k : Int) = decide (p ≠ 0) := by unfold endB; rw [h, Int.toNat_natCast, getD_at hp]; rfl
  refine ⟨h1, ?_⟩
  unfold endC
  rw [h1]
  by_cases hq : p = 0
  · rw [if_pos hq, if_neg (by simpa using hq)]
  · rw [if_neg hq, if_pos (by simpa using hq)]
    rfl
theorem has_at {w : World} {F : Nat → Prop} {C : Cnt} {z : Int} {a a2 : Option Addr} {n c n2 c2 : Nat} (hl : CList w F a n c a2 n2 c2 C) (h : hasC C z = true) : ∃ k : Nat, z = (k : Int) ∧ n = n2 ∧ k < n ∧ n ≤ 32 ∧ ∃ x q x2 p, a = some x ∧ a2 = some x2 ∧ C.live[k]? = some q ∧ C.pend[k]? = some p ∧ (0 ≤ q ∧ q ≤ 1099511627776) ∧ (0 ≤ p ∧ p ≤ 1099511627776) ∧ w.cell? (x.add k) = some (.int .i64 q) ∧ w.cell? (x2.add k) = some (.int .i64 p) := by
  obtain ⟨hv, h0, h1⟩ := has_c.1 h
  have hvv := valid_c.1 hv
  have hln := hl.l.length
  have hpn := hl.p.length
  obtain ⟨k, rfl⟩ : ∃ k : Nat, z = (k : Int) := ⟨z.toNat, by omega⟩
  have hk : k < n := by omega
  obtain ⟨x, q, hx, hq, hc⟩ := hl.l.at' k hk
  obtain ⟨x2, p, hx2, hp, hc2⟩ := hl.p.at' k (by omega)
  exact ⟨k, rfl, by omega, hk, by omega, x, q, x2, p, hx, hx2, hq, hp, hvv.2.1 q (List.mem_of_getElem? hq), hvv.2.2 p (List.mem_of_getElem? hp), hc, hc2⟩
end Go.Proofs.Ytljdepnhhngbeaa.Ents
