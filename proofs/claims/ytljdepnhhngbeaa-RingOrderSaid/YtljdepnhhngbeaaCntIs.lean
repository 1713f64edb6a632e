
/- Counters in memory; the walks of the document's Valid, has, plus, Same, New of counters. -/
import Derived.Test.YtljdepnhhngbeaaCntMath
import Derived.Test.YtljdepnhhngbeaaIntIs
import Derived.Test.YtljdepnhhngbeaaEntSame
namespace Go.Proofs.Ytljdepnhhngbeaa.Ents
open Go.RowKit Plan EntMath CntMath
abbrev cntV (a : Option Addr) (n c : Nat) (a2 : Option Addr) (n2 c2 : Nat) : Value := .agg #[.slice a n c, .slice a2 n2 c2]
/-- counters that lie in the blocks of a set -/
structure CList (w : World) (F : Nat → Prop) (a : Option Addr) (n c : Nat) (a2 : Option Addr) (n2 c2 : Nat) (C : Cnt) : Prop where
  l : IList w F a n c C.live
  p : IList w F a2 n2 c2 C.pend
theorem CList.on {F : Nat → Prop} {w w' : World} {a a2 : Option Addr} {n c n2 c2 : Nat} {C : Cnt} (h : CList w F a n c a2 n2 c2 C) (hw : Same F w w') : CList w' F a n c a2 n2 c2 C := ⟨h.l.on hw, h.p.on hw⟩
theorem CList.mono {F G : Nat → Prop} {w : World} {a a2 : Option Addr} {n c n2 c2 : Nat} {C : Cnt} (h : CList w F a n c a2 n2 c2 C) (hFG : ∀ b, b < w.heap.size → F b → G b) : CList w G a n c a2 n2 c2 C := ⟨h.l.mono hFG, h.p.mono hFG⟩
theorem CList.cut {F : Nat → Prop} {w : World} {a a2 : Option Addr} {n c n2 c2 : Nat} {C : Cnt} (h : CList w F a n c a2 n2 c2 C) : CList w (fun b => F b ∧ b < w.heap.size) a n c a2 n2 c2 C := ⟨h.l.cut, h.p.cut⟩
theorem CList.same {F : Nat → Prop} {w w' : World} {a a2 : Option Addr} {n c n2 c2 : Nat} {C : Cnt} (h : CList w F a n c a2 n2 c2 C) (hb : Below w.heap.size w w') : CList w' (fun b => b < w.heap.size) a n c a2 n2 c2 C := ⟨h.l.same hb, h.p.same hb⟩
theorem two_row {w : World} {g : Nat} {a b : Value} {t : TypeId} {fr : Nat × Nat} (h : w.heap[g]? = some (.cells #[a, b] t fr)) : w.cell? ⟨g, 0, none⟩ = some a ∧ w.cell? ⟨g, 1, none⟩ = some b := ⟨cell_of_row _ _ 0 _ _ _ h, cell_of_row _ _ 1 _ _ _ h⟩
theorem cnt_no {C : Cnt} (h : ¬ (C.live.length = C.pend.length ∧ 1 ≤ C.live.length ∧ C.live.length ≤ 32)) : validC C = false := by
  cases hv : validC C
  · rfl
  · exact absurd (valid_c.1 hv).1 h
theorem cnt_badl {C : Cnt} {j : Nat} {z : Int} (hz : C.live[j]? = some z) (h : ¬ (0 ≤ z ∧ z ≤ 1099511627776)) : validC C = false := by
  cases hv : validC C
  · rfl
  · exact absurd ((valid_c.1 hv).2.1 z (List.mem_of_getElem? hz)) h
theorem cnt_badp {C : Cnt} {j : Nat} {z : Int} (hz : C.pend[j]? = some z) (h : ¬ (0 ≤ z ∧ z ≤ 1099511627776)) : validC C = false := by
  cases hv : validC C
  · rfl
  · exact absurd ((valid_c.1 hv).2.2 z (List.mem_of_getElem? hz)) h
theorem cnt_all {C : Cnt} (h : C.live.length = C.pend.length ∧ 1 ≤ C.live.length ∧ C.live.length ≤ 32) (hs : ∀ j : Nat, j < C.live.length → (∀ z, C.live[j]? = some z → 0 ≤ z ∧ z ≤ 1099511627776) ∧ ∀ z, C.pend[j]? = some z → 0 ≤ z ∧ z ≤ 1099511627776) : validC C = true := by
  refine valid_c.2 ⟨h, fun z hz => ?_, fun z hz => ?_⟩
  · obtain ⟨j, hj⟩ := List.mem_iff_getElem?.1 hz
    exact (hs j (List.getElem?_eq_some_iff.1 hj).1).1 z hj
  · obtain ⟨j, hj⟩ := List.mem_iff_getElem?.1 hz
    exact (hs j (by have := (List.getElem?_eq_some_iff.1 hj).1; omega)).2 z hj
theorem five_ways (z y : Int) : (z < 0) ∨ (¬ z < 0 ∧ 1099511627776 < z) ∨ (¬ z < 0 ∧ ¬ 1099511627776 < z ∧ y < 0) ∨ (¬ z < 0 ∧ ¬ 1099511627776 < z ∧ ¬ y < 0 ∧ 1099511627776 < y) ∨ (¬ z < 0 ∧ ¬ 1099511627776 < z ∧ ¬ y < 0 ∧ ¬ 1099511627776 < y) := by omega
theorem plus_is {Z : List Int} {i : Nat} {z : Int} (h : Z[i]? = some z) (k : Int) : plusL Z i k = Z.set i (z + k) := by unfold plusL; rw [getD_at h]
end Go.Proofs.Ytljdepnhhngbeaa.Ents
