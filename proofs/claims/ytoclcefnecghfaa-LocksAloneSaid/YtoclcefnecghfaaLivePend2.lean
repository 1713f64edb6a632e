
/- The walks of the program's pend, Begin, End of counters. -/
import Derived.Test.YtoclcefnecghfaaLivePend
import Derived.Test.YtoclcefnecghfaaCntPend
namespace Go.Proofs.Ytoclcefnecghfaa.Ents
open Go.RowKit Plan EntMath CntMath
theorem Own.row {w : World} {B sz g n cap X : Nat} {t : TypeId} {L : List Value} (h : w.ownsRow B t sz (.slice (some ⟨g, 0, none⟩) n cap) n L) (cs : Array Value) (hX : X ≠ g) : (w.setRow X cs).ownsRow B t sz (.slice (some ⟨g, 0, none⟩) n cap) n L := by
  obtain ⟨h1, h2⟩ := h
  refine ⟨h1, ?_⟩
  rcases h2 with h3 | ⟨g', cap', cur, hv, hb, hg, h4⟩
  · exact .inl h3
  · cases hv
    exact .inr ⟨g, cap, cur, rfl, hb, (setRow_other w X g cs (Ne.symm hX)).trans hg, h4⟩
theorem pend_list {w : World} {F : Nat → Prop} {B A : Nat} {a : Option Addr} {n c g k : Nat} {Z K : List Int} (h : IList w (fun b => F b ∧ b < A) a n c Z) (ho : w.ownsRow B 3 1 (.slice (some ⟨g, 0, none⟩) n k) n (intC K)) (hg : A + 1 < g) : CList w (fun b => (F b ∧ b < A) ∨ A + 1 < b) a n c (some ⟨g, 0, none⟩) n k ⟨Z, K⟩ := by
  obtain ⟨a9, c9, e9, l9⟩ := own_ilist (F := fun b => (F b ∧ b < A) ∨ A + 1 < b) ho (fun b h9 => .inr (by have h8 := Option.some.inj (show some g = some b from h9); omega))
  cases e9
  exact ⟨h.mono fun _ _ h => .inl h, l9⟩
/-- what a number added to Pending of a zone makes of counters -/
def pendB (C : Cnt) (z k : Int) : Bool := hasC C z && okN (C.pend.getD z.toNat 0 + k)
def pendC (C : Cnt) (z k : Int) : Cnt := if pendB C z k = true then ⟨C.live, plusL C.pend z.toNat k⟩ else C
theorem begin_pend (C : Cnt) (z : Int) : beginB C z = pendB C z 1 ∧ beginC C z = pendC C z 1 := by
  have h : beginB C z = pendB C z 1 := by
    unfold beginB pendB
    cases hh : hasC C z
    · rfl
    · have hb := getD_ok (valid_c.1 (has_c.1 hh).1).2.2 z.toNat
      generalize C.pend.getD z.toNat 0 = p at *
      rw [Bool.true_and, Bool.true_and, okN, ← Bool.decide_and]
      exact decide_eq_decide.2 (by omega)
  refine ⟨h, ?_⟩
  unfold beginC pendC
  rw [h]
theorem end_pend (C : Cnt) (z : Int) : endB C z = pendB C z (-1) ∧ endC C z = pendC C z (-1) := by
  have h : endB C z = pendB C z (-1) := by
    unfold endB pendB
    cases hh : hasC C z
    · rfl
    · have hb := getD_ok (valid_c.1 (has_c.1 hh).1).2.2 z.toNat
      generalize C.pend.getD z.toNat 0 = p at *
      rw [Bool.true_and, Bool.true_and, okN, ← Bool.decide_and]
      exact decide_eq_decide.2 (by omega)
  refine ⟨h, ?_⟩
  unfold endC pendC
  rw [h]
theorem pend_no {C : Cnt} {z k : Int} (h : hasC C z = false) : pendC C z k = C ∧ pendB C z k = false := by
  have h1 : pendB C z k = false := by unfold pendB; rw [h]; rfl
  exact ⟨by unfold pendC; rw [h1]; rfl, h1⟩
theorem pend_is {C : Cnt} {q : Nat} {k p : Int} (h : hasC C (q : Int) = true) (hp : C.pend[q]? = some p) : pendB C (q : Int) k = okN (p + k) ∧ pendC C (q : Int) k = (if okN (p + k) = true then ⟨C.live, plusL C.pend q k⟩ else C) ∧ validC ⟨C.live, plusL C.pend q k⟩ = okN (p + k) := by
  have h1 : pendB C (q : Int) k = okN (p + k) := by unfold pendB; rw [h, Int.toNat_natCast, getD_at hp]; rfl
  refine ⟨h1, by unfold pendC; rw [h1]; rfl, ?_⟩
  have hv := valid_c.1 (has_c.1 h).1
  have hl : (plusL C.pend q k).length = C.pend.length := plus_len _ _ _
  have hq := (List.getElem?_eq_some_iff.1 hp).1
  cases ho : okN (p + k)
  · cases hx : validC ⟨C.live, plusL C.pend q k⟩
    · rfl
    · have h2 := (valid_c.1 hx).2.2 (p + k) (by rw [plus_is hp]; exact List.mem_set hq _)
      rw [ok_n.2 h2] at ho
      cases ho
  · refine valid_c.2 ⟨⟨by rw [hl]; exact hv.1.1, hv.1.2⟩, hv.2.1, fun z hz => ?_⟩
    rw [plus_is hp] at hz
    rcases List.mem_or_eq_of_mem_set hz with h3 | h3
    · exact hv.2.2 z h3
    · rw [h3]; exact ok_n.1 ho
end Go.Proofs.Ytoclcefnecghfaa.Ents
