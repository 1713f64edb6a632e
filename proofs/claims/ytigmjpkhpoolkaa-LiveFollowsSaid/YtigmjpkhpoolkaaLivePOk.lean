
/- The program's counters do what the contracts of the document's own say. -/
import Derived.Test.YtigmjpkhpoolkaaLivePChg
namespace Go.Proofs.Ytigmjpkhpoolkaa.Ents
open Go.RowKit Plan EntMath CntMath
theorem lchg_any (F : Nat → Prop) (C : Cnt) (o f : Ent) (had is : Bool) (a a2 : Option Addr) (n c n2 c2 : Nat) (w : World) (hl : CList w F a n c a2 n2 c2 C) :
    Calls Try.prog 14 #[cntV a n c a2 n2 c2, entV o, entV f, .bool had, .bool is] w (CntPost w F (changeC C o.zone f.zone had is) (changeB C o.zone f.zone had is)) := by
  obtain ⟨b1, k1, v1, m1, z1, o1⟩ := o
  obtain ⟨b2, k2, v2, m2, z2, o2⟩ := f
  cases hask : asksC C z1 z2 had is
  · exact lchg_no F C b1 k1 v1 m1 z1 o1 b2 k2 v2 m2 z2 o2 had is a a2 n c n2 c2 w hl hask
  · have h := hask
    unfold asksC at h
    simp only [Bool.and_eq_true, Bool.or_eq_true, Bool.not_eq_true'] at h
    obtain ⟨⟨hva, h1⟩, h2⟩ := h
    cases had
    · cases is
      · exact lchg_ff F C b1 k1 v1 m1 z1 o1 b2 k2 v2 m2 z2 o2 a a2 n c n2 c2 w hl hva
      · exact lchg_ft F C b1 k1 v1 m1 z1 o1 b2 k2 v2 m2 z2 o2 a a2 n c n2 c2 w hl hva (h2.resolve_left (by decide))
    · cases is
      · exact lchg_tf F C b1 k1 v1 m1 z1 o1 b2 k2 v2 m2 z2 o2 a a2 n c n2 c2 w hl hva (h1.resolve_left (by decide))
      · exact lchg_tt F C b1 k1 v1 m1 z1 o1 b2 k2 v2 m2 z2 o2 a a2 n c n2 c2 w hl hva (h1.resolve_left (by decide)) (h2.resolve_left (by decide))
theorem liveOk : LiveOk := ⟨lnew_any, fun F C a a2 n c n2 c2 w hl _ _ => lvalid_any F C a a2 n c n2 c2 w hl, fun F C z a a2 n c n2 c2 w _ hl _ _ => lbgn_any F C z a a2 n c n2 c2 w hl, fun F C z a a2 n c n2 c2 w _ hl _ _ => lfin_any F C z a a2 n c n2 c2 w hl, fun F C z a a2 n c n2 c2 w _ hl _ _ => lclr_any F C z a a2 n c n2 c2 w hl, fun F C o f had is a a2 n c n2 c2 w _ hl _ _ => lchg_any F C o f had is a a2 n c n2 c2 w hl, fun F L a n c s w hl hn => lof_any F L a n c s w hl (by omega)⟩
end Go.Proofs.Ytigmjpkhpoolkaa.Ents
