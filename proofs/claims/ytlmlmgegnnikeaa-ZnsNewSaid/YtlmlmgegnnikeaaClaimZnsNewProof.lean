/- ZnsNew: the program's New makes the devices that the document's own makes, and answers its errors, for any numbers. No condition. -/
import Derived.Test.YtlmlmgegnnikeaaPack12
import Derived.Test.YtlmlmgegnnikeaaRows
import Derived.WalkKit
import Derived.ProofKit
import Derived.SliceStrings
import Derived.OpenShut
import Derived.ShutString
import Derived.ChangeOld
import Derived.Carry
import Derived.Below

/- The walk of the law ZnsNew. -/
namespace Go.Proofs.Ytlmlmgegnnikeaa
open Go.RowKit Plan ZnsMath

set_option maxHeartbeats 2000000 in
set_option maxRecDepth 20000 in
theorem znsNew_all (zones size op act : Int) (w : World) :
    Calls Try.prog 4 #[.int .i64 zones, .int .i64 size, .int .i64 op, .int .i64 act] w fun e w' => e = .returned (.bool true) ∧ Below w.heap.size w w' := by
  have h1 := fun W => new_any zones size op act W
  have h2 := fun W => refNew_any zones size op act W
  have h3 := fun a b cap cap2 W => refSame_any (newR zones size op act) a b (if newE zones size op act = 0 then zones.toNat else 0) cap cap2 W
  have h4 := fun W => awake_zns W
  unfold DevPost at h1 h2
  generalize newR zones size op act = R at *
  generalize newE zones size op act = E at *
  generalize (if E = 0 then zones.toNat else 0) = n at *
  obtain ⟨rs, ro, ra, RZ⟩ := R
  have H1 := Lib.hid h1
  have H2 := Lib.hid h2
  have H3 := Lib.hid h3
  have H4 := Lib.hid h4
  clear h1 h2 h3 h4
  go_enter Try.func4, Try.ntmps4
  go_wp2_with (first
    | (go_at_call 12; ((with_reducible refine (H1.out _).mono ?_); rintro e w1 ⟨a1, c1, rfl, hz1, b1⟩; have hv1 := heap_alloc_new w1 (devRow rs ro ra a1 n c1); have bb1 := b1.alloc b1.size (devRow rs ro ra a1 n c1); have hz1' := hz1.is.on ((Below.refl _ _).alloc (Nat.le_refl _) (devRow rs ro ra a1 n c1)) (Nat.le_refl _)))
    | (go_at_call 13; ((with_reducible refine (H2.out _).mono ?_); rintro e w2 ⟨a2, c2, rfl, hz2, hb2⟩; have hv2 := row_al (row_on hb2 hv1 (lt_of_block hv1)) (devRow rs ro ra a2 n c2); have hx2 := heap_alloc_new w2 (devRow rs ro ra a2 n c2); have b2 := bb1.trans (hb2.mono bb1.size); have bb2 := b2.alloc b2.size (devRow rs ro ra a2 n c2); have hz1'' := (hz1'.on hb2 (Nat.le_refl _)).on ((Below.refl _ _).alloc (Nat.le_refl _) (devRow rs ro ra a2 n c2)) (Nat.le_refl _); have hz2' := hz2.is.on ((Below.refl _ _).alloc (Nat.le_refl _) (devRow rs ro ra a2 n c2)) (Nat.le_refl _); obtain ⟨v2, l0, l1, l2, l3⟩ := row4 hv2; obtain ⟨x2, m0, m1, m2, m3⟩ := row4 hx2))
    | (go_at_call 14; ((with_reducible refine (H3.out a1 a2 c1 c2 _ hz1'' hz2').mono ?_); rintro e w3 ⟨rfl, hb3⟩; have b3 := bb2.trans (hb3.mono bb2.size)))
    | (go_at_call 10; ((with_reducible refine (H4.out _).mono ?_); rintro e w4 ⟨rfl, hb4⟩; have b4 := b3.trans (hb4.mono b3.size))))
  go_ret
  exact ⟨rfl, b4⟩
end Go.Proofs.Ytlmlmgegnnikeaa

/- ZnsNew: the program's New makes the devices that the document's own makes, and answers its errors, for any numbers. No condition. -/
namespace Go.Proofs.Ytlmlmgegnnikeaa.znsNew
open Go.ChangeShapes Go.WideShapes Go.ChangeAt Go.RowKit
open Go.ChangeMaps (open_string shut_string)
set_option linter.unusedVariables false

theorem own : ownKnob Try.prog.godebug = none := by kernel_rfl
theorem laidOut : laidOutB Try.prog = true := by kernel_rfl

theorem walk (a0 : Int) (w0 : (Lit.int .i64 a0).wf = true) (a1 : Int) (w1 : (Lit.int .i64 a1).wf = true) (a2 : Int) (w2 : (Lit.int .i64 a2).wf = true) (a3 : Int) (w3 : (Lit.int .i64 a3).wf = true) (w : World) :
    Calls Try.prog 4 #[.int .i64 a0, .int .i64 a1, .int .i64 a2, .int .i64 a3] w fun e w' => e = .returned (.bool true) ∧ Below w.heap.size w w' := by
  exact znsNew_all a0 a1 a2 a3 w

set_option maxRecDepth 100000 in
theorem lifted (os : Os) (started : os.Started) (H : Type) (enc : TypeId × Value → H) :
    ReturnsInHanded {} Try.checked os 4 .any (Rows.znsNewSpec.pre6 enc Try.prog Try.f4 Rows.znsNewRow.domain false) (Rows.znsNewSpec.post enc Try.prog Try.f4 false true false false) := by
  refine returnsInHanded_of_change (C := Try.checked) own started (by kernel_rfl) Try.func4
    (ChangeSpec.witness6 (enc := enc) (C := Try.checked) false ⟨#[], #[.int .i64 0, .int .i64 0, .int .i64 0, .int .i64 0], []⟩ 8 (by kernel_rfl) (by kernel_rfl) (by kernel_rfl) (by kernel_rfl)) ?_
  intro W base args ds gs before hval0 hW hcnd _
  have hval : ∀ (j : Nat) t v, Try.f4.params[j]? = some t → args[j]? = some v → Value.okWide Try.prog W .any base t v := hval0
  have hW' := hW
  obtain ⟨p, q, hA0, hV, rfl, hfz, hnd⟩ := hW
  have hA : DataW.TrodAll enc Try.prog W 0 (fun _ => true) true Try.f4.params.toList args.toList ds p := hA0
  rw [Try.params4] at hA hval
  obtain ⟨v0, vs0, d0, ds0, p0, q0, hargs, rfl, rfl, h0, r0⟩ := trodAll_cons hA
  obtain ⟨v1, vs1, d1, ds1, p1, q1, rfl, rfl, rfl, h1, r1⟩ := trodAll_cons r0
  obtain ⟨v2, vs2, d2, ds2, p2, q2, rfl, rfl, rfl, h2, r2⟩ := trodAll_cons r1
  obtain ⟨v3, vs3, d3, ds3, p3, q3, rfl, rfl, rfl, h3, r3⟩ := trodAll_cons r2
  obtain ⟨rfl, rfl, rfl⟩ := trodAll_nil r3
  obtain rfl : args = #[v0, v1, v2, v3] := by cases args; simp_all
  obtain ⟨rfl, rfl⟩ := trodVars_none hV
  have k0' := h0
  have lt0 : ∀ x ∈ p0, x.block < W.heap.size := by obtain ⟨m, hm⟩ := h0; exact DataW.trod_lt m _ _ _ hm
  have k1' := h1
  have lt1 : ∀ x ∈ p1, x.block < W.heap.size := by obtain ⟨m, hm⟩ := h1; exact DataW.trod_lt m _ _ _ hm
  have k2' := h2
  have lt2 : ∀ x ∈ p2, x.block < W.heap.size := by obtain ⟨m, hm⟩ := h2; exact DataW.trod_lt m _ _ _ hm
  have k3' := h3
  have lt3 : ∀ x ∈ p3, x.block < W.heap.size := by obtain ⟨m, hm⟩ := h3; exact DataW.trod_lt m _ _ _ hm
  obtain ⟨a0, rfl, _, _, w0⟩ := open_int Try.underlying3 (hval 0 3 v0 rfl rfl) h0
  obtain ⟨a1, rfl, _, _, w1⟩ := open_int Try.underlying3 (hval 1 3 v1 rfl rfl) h1
  obtain ⟨a2, rfl, _, _, w2⟩ := open_int Try.underlying3 (hval 2 3 v2 rfl rfl) h2
  obtain ⟨a3, rfl, _, _, w3⟩ := open_int Try.underlying3 (hval 3 3 v3 rfl rfl) h3
  clear hA0 hval0
  refine (walk a0 w0 a1 w1 a2 w2 a3 w3 W).mono fun e W' ⟨he, bel⟩ => ?_
  subst he
  exact ⟨_, rfl, _, _, _, [], _, [], hW', trodAll_mk1 (shut_bool Try.underlying4 _), (trodAll_cons_mk (Below.trod laidOut (by kernel_rfl) (of_decide_eq_true (by kernel_rfl)) k0' bel lt0) (trodAll_cons_mk (Below.trod laidOut (by kernel_rfl) (of_decide_eq_true (by kernel_rfl)) k1' bel lt1) (trodAll_cons_mk (Below.trod laidOut (by kernel_rfl) (of_decide_eq_true (by kernel_rfl)) k2' bel lt2) (trodAll_cons_mk (Below.trod laidOut (by kernel_rfl) (of_decide_eq_true (by kernel_rfl)) k3' bel lt3) trodAll_mk0)))), rfl, bel.frame _, fun h => by cases h⟩

theorem over : Rows.znsNewRow.holds Try.pinned (OpenSpec.ofChange Rows.znsNewSpec) :=
  OpenClaim.holds_of_wide 4 Try.f4 rfl rfl rfl rfl rfl rfl rfl ⟨rfl, rfl, rfl, rfl, rfl⟩ rfl rfl rfl rfl rfl (by kernel_rfl) Try.func4 (by kernel_rfl)
    (of_decide_eq_true (by kernel_rfl)) (by unfold Func.isWrapper; first | (rw [if_pos (by decide +kernel)]; kernel_rfl) | (rw [if_neg (by decide +kernel)]; exact ⟨rfl, rfl⟩))
    (fun os started H enc _ => lifted os started H enc)
end Go.Proofs.Ytlmlmgegnnikeaa.znsNew

namespace Go.Proofs.Ytlmlmgegnnikeaa
theorem znsNew_holds : Rows.ZnsNewSaid := znsNew.over
end Go.Proofs.Ytlmlmgegnnikeaa
