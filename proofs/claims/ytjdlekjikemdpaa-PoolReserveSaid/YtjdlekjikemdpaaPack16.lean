/- Texts that belong together, part 16. -/
import Derived.Test.YtjdlekjikemdpaaPack15

/- The walks of the document's Take and Give of locks. -/
namespace Go.Proofs.Ytjdlekjikemdpaa.Ents
open Go.RowKit Plan EntMath CntMath LckMath
/-- what a function that changes locks leaves -/
def LckPost (w : World) (F : Nat → Prop) (O : List Int) (B : Bool) (r : Ending) (w' : World) : Prop :=
  ∃ a n c, r = .returned (.tuple #[lckV a n c, .bool B]) ∧ IList w' (Plus F w.heap.size) a n c O ∧ Below w.heap.size w w'
end Go.Proofs.Ytjdlekjikemdpaa.Ents

/- The walk of the document's Of of counters. -/
namespace Go.Proofs.Ytjdlekjikemdpaa.Ents
open Go.RowKit Plan EntMath CntMath
abbrev intRow (Z : List Int) : Obj := .cells (intC Z).toArray 3
theorem zero_row (n : Nat) : zeroRow n = intRow (List.replicate n 0) := by
  have h : madeCells #[(.int .i64 0 : Value)] n = (intC (List.replicate n 0)).toArray := by
    refine Array.ext_getElem? fun j => ?_
    rcases Nat.lt_or_ge j n with hj | hj
    · rw [made_zero default hj, List.getElem?_toArray, intC_at (z := 0) (by rw [List.getElem?_replicate, if_pos hj])]
    · have h1 : (madeCells #[(.int .i64 0 : Value)] n).size = n := by simp [madeCells]
      rw [Array.getElem?_eq_none (by omega), Array.getElem?_eq_none (by simp [intC]; omega)]
  unfold zeroRow intRow
  rw [h]
theorem row_ilist {w : World} {F : Nat → Prop} {g n : Nat} {Z : List Int} (h : w.heap[g]? = some (intRow Z)) (hZ : Z.length = n) (hn : n ≤ maxLen) (hF : F g) : IList w F (some ⟨g, 0, none⟩) n n Z := by
  refine .inr ⟨_, rfl, Nat.le_refl _, hn, hZ, e_lt h, hF, fun j z hz => ?_⟩
  have h2 := cell_of_row w g j _ _ _ h
  rw [List.getElem?_toArray, intC_at hz] at h2
  rw [Addr.add_lit, Nat.zero_add]
  exact h2
theorem in_next {z : Int} {L : List Ent} {j : Nat} {e : Ent} (h : L[j]? = some e) (hi : inZ z (L.take j) = true) (he : 0 ≤ e.zone ∧ e.zone < z) : inZ z (L.take (j + 1)) = true := by
  unfold inZ at *
  rw [List.take_add_one, h, List.all_append, hi]
  simp [he.1, he.2]
theorem in_not {z : Int} {L : List Ent} {j : Nat} {e : Ent} (h : L[j]? = some e) (he : ¬ (0 ≤ e.zone ∧ e.zone < z)) : inZ z L = false := by
  cases hi : inZ z L
  · rfl
  · unfold inZ at hi
    have := List.all_eq_true.1 hi e (List.mem_of_getElem? h)
    simp only [Bool.and_eq_true, decide_eq_true_eq] at this
    exact absurd this he
/-- what Of leaves -/
def COfPost (w : World) (z : Int) (L : List Ent) (r : Ending) (w' : World) : Prop :=
  ∃ a n c a2 n2 c2, r = .returned (.tuple #[cntV a n c a2 n2 c2, .bool (ofB z L)]) ∧ CList w' (fun b => w.heap.size ≤ b) a n c a2 n2 c2 (ofC z L) ∧ Below w.heap.size w w'
end Go.Proofs.Ytjdlekjikemdpaa.Ents

/- What the program's counters are to do, in the words of the contracts of the document's own; the walk of the law's agree under it. -/
namespace Go.Proofs.Ytjdlekjikemdpaa.Ents
open Go.RowKit Plan EntMath CntMath
theorem heap3 (w : World) (p q r : Obj) : (((w.alloc p).alloc q).alloc r).heap[w.heap.size]? = some p ∧ (((w.alloc p).alloc q).alloc r).heap[w.heap.size + 1]? = some q ∧ (((w.alloc p).alloc q).alloc r).heap[w.heap.size + 2]? = some r := by
  have h3 := heap_alloc_new ((w.alloc p).alloc q) r
  rw [show ((w.alloc p).alloc q).heap.size = w.heap.size + 2 from by simp] at h3
  exact ⟨e_al (heap_first w p q) r, e_al (heap_second w p q) r, h3⟩
end Go.Proofs.Ytjdlekjikemdpaa.Ents
