
/- The walk of the document's Change of counters. -/
import Derived.Test.YtoclcefnecghfaaCntClear
namespace Go.Proofs.Ytoclcefnecghfaa.Ents
open Go.RowKit Plan EntMath CntMath
theorem heap4c (w : World) (a b c d : Obj) : ((((w.alloc a).alloc b).alloc c).alloc d).heap[w.heap.size]? = some a ∧ ((((w.alloc a).alloc b).alloc c).alloc d).heap[w.heap.size + 1]? = some b ∧ ((((w.alloc a).alloc b).alloc c).alloc d).heap[w.heap.size + 2]? = some c ∧ ((((w.alloc a).alloc b).alloc c).alloc d).heap[w.heap.size + 3]? = some d := by
  have h3 : (((w.alloc a).alloc b).alloc c).heap.size = w.heap.size + 3 := by simp only [World.size_alloc]
  have h2 : ((w.alloc a).alloc b).heap.size = w.heap.size + 2 := by simp only [World.size_alloc]
  refine ⟨e_al (e_al (heap_first w a b) c) d, e_al (e_al (heap_second w a b) c) d, e_al ?_ d, ?_⟩
  · have := heap_alloc_new ((w.alloc a).alloc b) c; rwa [h2] at this
  · have := heap_alloc_new (((w.alloc a).alloc b).alloc c) d; rwa [h3] at this
theorem plus_at {Z : List Int} (hb : ∀ z ∈ Z, 0 ≤ z ∧ z ≤ 1099511627776) (i k : Nat) (hk : k < Z.length) : ∃ z, (plusL Z i (-1))[k]? = some z ∧ -10 ≤ z ∧ z ≤ 1099511627786 := by
  have hk2 : k < (plusL Z i (-1)).length := by rw [plus_len]; exact hk
  have he : (plusL Z i (-1))[k]? = some ((plusL Z i (-1))[k]'hk2) := List.getElem?_eq_getElem _
  refine ⟨_, he, ?_⟩
  have hm := List.mem_of_getElem? he
  generalize (plusL Z i (-1))[k]'hk2 = z at hm
  rcases List.mem_or_eq_of_mem_set hm with h | h
  · have := hb _ h
    omega
  · have := getD_ok hb i
    omega
theorem less_at {C : Cnt} {o : Int} {had : Bool} {k : Nat} (hv : validC C = true) (hk : k < C.live.length) : ∃ z, (less C o had)[k]? = some z ∧ -10 ≤ z ∧ z ≤ 1099511627786 := by
  have hb := (valid_c.1 hv).2.1
  cases had
  · have he : C.live[k]? = some (C.live[k]'hk) := List.getElem?_eq_getElem _
    have := hb _ (List.mem_of_getElem? he)
    exact ⟨_, he, by omega, by omega⟩
  · rw [show less C o true = plusL C.live o.toNat (-1) from if_pos rfl]
    exact plus_at hb _ k hk
theorem asks_len {C : Cnt} {o f : Int} {had is : Bool} : (changedC C o f had is).live.length = C.live.length := by
  cases had <;> cases is <;> simp [changedC, more, less, plus_len]
end Go.Proofs.Ytoclcefnecghfaa.Ents
