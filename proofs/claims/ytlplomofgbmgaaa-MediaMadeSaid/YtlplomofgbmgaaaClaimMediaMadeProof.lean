/- MediaMade: the program's Sync, Crash and Volatile answer as the document's own, for devices that the maker makes, whole and with one thing changed. No condition. -/
import Derived.Test.YtlplomofgbmgaaaPack15
import Derived.Test.YtlplomofgbmgaaaRows
import Derived.WalkKit
import Derived.ProofKit
import Derived.SliceStrings
import Derived.OpenShut
import Derived.ShutString
import Derived.ChangeOld
import Derived.Carry
import Derived.Below

/- The walk of the law of devices that the maker makes, whole and spoilt. -/
namespace Go.Proofs.Ytlplomofgbmgaaa
open Go.RowKit Plan ZnsMath MedMath

set_option maxHeartbeats 2000000 in
set_option maxRecDepth 20000 in
theorem mediaMade_go (a0 : Option Addr) (l0 c0 : Nat) (zs : List Int) (ka : Option Addr) (kl kc : Nat) (ks : List Int) (p1 p2 p3 : Int) (w : World) (h0 : IsRow .i64 w a0 l0 c0 zs) (hk : IsRow .i64 w ka kl kc ks) (hl0 : l0 ≤ 300) (hkl : kl ≤ 40) :
    Calls Try.prog 4 #[.slice a0 l0 c0, .slice ka kl kc, .int .i64 p1, .int .i64 p2, .int .i64 p3] w fun e w' => e = .returned (.bool true) ∧ Below w.heap.size w w' := by
  have hlg := light_any a0 l0 c0 w
  have hdv := device_any a0 l0 c0 zs w h0 hl0
  have hkr := fun W (h : Below w.heap.size w W) => row_keep hk h
  unfold DevMade at hdv
  have e1 : decide ((l0 : Int) ≤ 300) = true := decide_eq_true (by omega)
  rw [e1] at hlg
  have hkI : ¬ (40 : Int) < (kl : Int) := by omega
  have HL := Lib.hid hlg
  have HD := Lib.hid hdv
  have HK := Lib.hid hkr
  clear hlg hdv h0 e1 hk hkr
  go_enter Try.func4, Try.ntmps4
  go_wp2_with (first
    | (go_at_call 9; ((with_reducible refine (HL.out).mono ?_); rintro e w1 ⟨rfl, rfl⟩))
    | (go_at_call 10; ((with_reducible refine (HD.out).mono ?_); rintro e w1 ⟨⟨ds, do', da, DZ⟩, a, n, cap, rfl, hz1, hck, hn2, hn5, hb1⟩; have hx1 := heap_alloc_new w1 (devRow ds do' da a n cap); have b1 := hb1.alloc hb1.size (devRow ds do' da a n cap); have hz1' := hz1.is.on ((Below.refl w1.heap.size w1).alloc (Nat.le_refl _) (devRow ds do' da a n cap)) (Nat.le_refl _); obtain ⟨y1, d0, d1, d2, d3⟩ := row4 hx1))
    | (go_at_call 7; ((with_reducible refine (medAgree_any ⟨ds, do', da, DZ⟩ a n cap ks ka kl kc _ hz1' (HK.out _ b1) (by omega)).mono ?_); rintro e w4 ⟨rfl, hb4⟩; have hx4 := row_on hb4 hx1 (lt_of_block hx1); have b4 := b1.trans (hb4.mono b1.size); have hz4 := hz1'.on hb4 (Nat.le_refl _); clear d0 d1 d2 d3; obtain ⟨y4, d0, d1, d2, d3⟩ := row4 hx4))
    | (go_at_call 11; ((with_reducible refine (odd_any ⟨ds, do', da, DZ⟩ a n cap p1 p2 p3 _ hz4 hck (by omega) (by omega)).mono ?_); rintro e w5 ⟨⟨os, oo, oa, OZ⟩, ao, no, co, rfl, hzo, hb5, hno⟩; have b5 := b4.trans (hb5.mono b4.size)))
    | (go_at_call 7; ((with_reducible refine (medAgree_any ⟨os, oo, oa, OZ⟩ ao no co ks ka kl kc _ hzo (HK.out _ b5) (by omega)).mono ?_); rintro e w6 ⟨rfl, hb6⟩; have b6 := b5.trans (hb6.mono b5.size)))
    | (go_at_call 8; ((with_reducible refine (awake_med _).mono ?_); rintro e w7 ⟨rfl, hb7⟩)))
  go_ret
  exact ⟨rfl, b6.trans (hb7.mono b6.size)⟩
set_option maxHeartbeats 2000000 in
set_option maxRecDepth 20000 in
theorem mediaMade_all (a0 : Option Addr) (l0 c0 : Nat) (zs : List Int) (ka : Option Addr) (kl kc : Nat) (ks : List Int) (p1 p2 p3 : Int) (w : World) (h0 : IsRow .i64 w a0 l0 c0 zs) (hk : IsRow .i64 w ka kl kc ks) :
    Calls Try.prog 4 #[.slice a0 l0 c0, .slice ka kl kc, .int .i64 p1, .int .i64 p2, .int .i64 p3] w fun e w' => e = .returned (.bool true) ∧ Below w.heap.size w w' := by
  by_cases h : l0 ≤ 300 ∧ kl ≤ 40
  · exact mediaMade_go a0 l0 c0 zs ka kl kc ks p1 p2 p3 w h0 hk h.1 h.2
  · have hlg := light_any a0 l0 c0 w
    have HL := Lib.hid hlg
    by_cases h1 : l0 ≤ 300
    · have e1 : decide ((l0 : Int) ≤ 300) = true := decide_eq_true (by omega)
      have hkI : (40 : Int) < (kl : Int) := by omega
      rw [e1] at hlg
      have HL := Lib.hid hlg
      clear hlg h0 hk e1 h
      go_enter Try.func4, Try.ntmps4
      go_wp2_with (first
        | (go_at_call 9; ((with_reducible refine (HL.out).mono ?_); rintro e w1 ⟨rfl, rfl⟩))
        | (go_at_call 8; ((with_reducible refine (awake_med _).mono ?_); rintro e w7 ⟨rfl, hb7⟩)))
      go_ret
      exact ⟨rfl, hb7⟩
    · have e1 : decide ((l0 : Int) ≤ 300) = false := decide_eq_false (by omega)
      rw [e1] at hlg
      have HL := Lib.hid hlg
      clear hlg h0 hk e1 h
      go_enter Try.func4, Try.ntmps4
      go_wp2_with (first
        | (go_at_call 9; ((with_reducible refine (HL.out).mono ?_); rintro e w1 ⟨rfl, rfl⟩))
        | (go_at_call 8; ((with_reducible refine (awake_med _).mono ?_); rintro e w7 ⟨rfl, hb7⟩)))
      go_ret
      exact ⟨rfl, hb7⟩
end Go.Proofs.Ytlplomofgbmgaaa

/- MediaMade: the program's Sync, Crash and Volatile answer as the document's own, for devices that the maker makes, whole and with one thing changed. No condition. -/
namespace Go.Proofs.Ytlplomofgbmgaaa.mediaMade
open Go.ChangeShapes Go.WideShapes Go.ChangeAt Go.RowKit
open Go.ChangeMaps (open_string shut_string)
set_option linter.unusedVariables false

theorem own : ownKnob Try.prog.godebug = none := by kernel_rfl
theorem laidOut : laidOutB Try.prog = true := by kernel_rfl

theorem walk (a0 : Option Addr) (l0 c0 : Nat) (z0 : List Int) (a1 : Option Addr) (l1 c1 : Nat) (z1 : List Int) (a2 : Int) (w2 : (Lit.int .i64 a2).wf = true) (a3 : Int) (w3 : (Lit.int .i64 a3).wf = true) (a4 : Int) (w4 : (Lit.int .i64 a4).wf = true) (w : World) (w0 : IsRow .i64 w a0 l0 c0 z0) (w1 : IsRow .i64 w a1 l1 c1 z1) :
    Calls Try.prog 4 #[.slice a0 l0 c0, .slice a1 l1 c1, .int .i64 a2, .int .i64 a3, .int .i64 a4] w fun e w' => e = .returned (.bool true) ∧ Below w.heap.size w w' := by
  exact mediaMade_all a0 l0 c0 z0 a1 l1 c1 z1 a2 a3 a4 w w0 w1

set_option maxRecDepth 100000 in
theorem lifted (os : Os) (started : os.Started) (H : Type) (enc : TypeId × Value → H) :
    ReturnsInHanded {} Try.checked os 4 .any (Rows.mediaMadeSpec.pre6 enc Try.prog Try.f4 Rows.mediaMadeRow.domain false) (Rows.mediaMadeSpec.post enc Try.prog Try.f4 false true false false) := by
  refine returnsInHanded_of_change (C := Try.checked) own started (by kernel_rfl) Try.func4
    (ChangeSpec.witness6 (enc := enc) (C := Try.checked) false ⟨#[], #[.slice none 0 0, .slice none 0 0, .int .i64 0, .int .i64 0, .int .i64 0], []⟩ 8 (by kernel_rfl) (by kernel_rfl) (by kernel_rfl) (by kernel_rfl)) ?_
  intro W base args ds gs before hval0 hW hcnd _
  have hval : ∀ (j : Nat) t v, Try.f4.params[j]? = some t → args[j]? = some v → Value.okWide Try.prog W .any base t v := hval0
  have hW' := hW
  obtain ⟨p, q, hA0, hV, rfl, hfz, hnd⟩ := hW
  have hA : DataW.TrodAll enc Try.prog W 0 (fun _ => true) true Try.f4.params.toList args.toList ds p := hA0
  rw [Try.params4] at hA hval
  obtain ⟨v0, vs0, d0, ds0, p0, q0, hargs, rfl, rfl, h0, r0⟩ := trodAll_cons hA
  obtain ⟨v1, vs1, d1, ds1, p1, q1, rfl, rfl, rfl, h1, r1⟩ := trodAll_cons r0
  obtain ⟨v2, vs2, d2, ds2, p2, q2, rfl, rfl, rfl, h2, r2⟩ := trodAll_cons r1
  obtain ⟨v3, vs3, d3, ds3, p3, q3, rfl, rfl, rfl, h3, r3⟩ := trodAll_cons r2
  obtain ⟨v4, vs4, d4, ds4, p4, q4, rfl, rfl, rfl, h4, r4⟩ := trodAll_cons r3
  obtain ⟨rfl, rfl, rfl⟩ := trodAll_nil r4
  obtain rfl : args = #[v0, v1, v2, v3, v4] := by cases args; simp_all
  obtain ⟨rfl, rfl⟩ := trodVars_none hV
  have k0' := h0
  have lt0 : ∀ x ∈ p0, x.block < W.heap.size := by obtain ⟨m, hm⟩ := h0; exact DataW.trod_lt m _ _ _ hm
  have k1' := h1
  have lt1 : ∀ x ∈ p1, x.block < W.heap.size := by obtain ⟨m, hm⟩ := h1; exact DataW.trod_lt m _ _ _ hm
  have k2' := h2
  have lt2 : ∀ x ∈ p2, x.block < W.heap.size := by obtain ⟨m, hm⟩ := h2; exact DataW.trod_lt m _ _ _ hm
  have k3' := h3
  have lt3 : ∀ x ∈ p3, x.block < W.heap.size := by obtain ⟨m, hm⟩ := h3; exact DataW.trod_lt m _ _ _ hm
  have k4' := h4
  have lt4 : ∀ x ∈ p4, x.block < W.heap.size := by obtain ⟨m, hm⟩ := h4; exact DataW.trod_lt m _ _ _ hm
  obtain ⟨a0, l0, c0, rfl⟩ := okWide_slice Try.underlying25 (hval 0 25 v0 rfl rfl)
  obtain ⟨z0, w0⟩ : ∃ zs, IsRow .i64 W a0 l0 c0 zs := by
    obtain ⟨fuel, hf⟩ := h0
    rcases open_ints Try.underlying25 Try.underlying3 (by kernel_rfl) hf with ⟨hcs, _⟩ | ⟨x, l, c, zs, hcs, _, hl, hm, hz, _, hcell, hwz⟩
    · simp [Value.cells] at hcs
      obtain ⟨rfl, rfl, rfl⟩ := hcs
      exact ⟨[], .inl ⟨rfl, rfl, rfl, rfl⟩⟩
    · simp [Value.cells] at hcs
      obtain ⟨rfl, rfl, rfl⟩ := hcs
      exact ⟨zs, .inr ⟨_, rfl, hl, hm, by simpa using hz, hcell, hwz⟩⟩
  obtain ⟨a1, l1, c1, rfl⟩ := okWide_slice Try.underlying25 (hval 1 25 v1 rfl rfl)
  obtain ⟨z1, w1⟩ : ∃ zs, IsRow .i64 W a1 l1 c1 zs := by
    obtain ⟨fuel, hf⟩ := h1
    rcases open_ints Try.underlying25 Try.underlying3 (by kernel_rfl) hf with ⟨hcs, _⟩ | ⟨x, l, c, zs, hcs, _, hl, hm, hz, _, hcell, hwz⟩
    · simp [Value.cells] at hcs
      obtain ⟨rfl, rfl, rfl⟩ := hcs
      exact ⟨[], .inl ⟨rfl, rfl, rfl, rfl⟩⟩
    · simp [Value.cells] at hcs
      obtain ⟨rfl, rfl, rfl⟩ := hcs
      exact ⟨zs, .inr ⟨_, rfl, hl, hm, by simpa using hz, hcell, hwz⟩⟩
  obtain ⟨a2, rfl, _, _, w2⟩ := open_int Try.underlying3 (hval 2 3 v2 rfl rfl) h2
  obtain ⟨a3, rfl, _, _, w3⟩ := open_int Try.underlying3 (hval 3 3 v3 rfl rfl) h3
  obtain ⟨a4, rfl, _, _, w4⟩ := open_int Try.underlying3 (hval 4 3 v4 rfl rfl) h4
  clear hA0 hval0
  refine (walk a0 l0 c0 z0 a1 l1 c1 z1 a2 w2 a3 w3 a4 w4 W w0 w1).mono fun e W' ⟨he, bel⟩ => ?_
  subst he
  exact ⟨_, rfl, _, _, _, [], _, [], hW', trodAll_mk1 (shut_bool Try.underlying4 _), (trodAll_cons_mk (Below.trod laidOut (by kernel_rfl) (of_decide_eq_true (by kernel_rfl)) k0' bel lt0) (trodAll_cons_mk (Below.trod laidOut (by kernel_rfl) (of_decide_eq_true (by kernel_rfl)) k1' bel lt1) (trodAll_cons_mk (Below.trod laidOut (by kernel_rfl) (of_decide_eq_true (by kernel_rfl)) k2' bel lt2) (trodAll_cons_mk (Below.trod laidOut (by kernel_rfl) (of_decide_eq_true (by kernel_rfl)) k3' bel lt3) (trodAll_cons_mk (Below.trod laidOut (by kernel_rfl) (of_decide_eq_true (by kernel_rfl)) k4' bel lt4) trodAll_mk0))))), rfl, bel.frame _, fun h => by cases h⟩

theorem over : Rows.mediaMadeRow.holds Try.pinned (OpenSpec.ofChange Rows.mediaMadeSpec) :=
  OpenClaim.holds_of_wide 4 Try.f4 rfl rfl rfl rfl rfl rfl rfl ⟨rfl, rfl, rfl, rfl, rfl⟩ rfl rfl rfl rfl rfl (by kernel_rfl) Try.func4 (by kernel_rfl)
    (of_decide_eq_true (by kernel_rfl)) (by unfold Func.isWrapper; first | (rw [if_pos (by decide +kernel)]; kernel_rfl) | (rw [if_neg (by decide +kernel)]; exact ⟨rfl, rfl⟩))
    (fun os started H enc _ => lifted os started H enc)
end Go.Proofs.Ytlplomofgbmgaaa.mediaMade

namespace Go.Proofs.Ytlplomofgbmgaaa
theorem mediaMade_holds : Rows.MediaMadeSaid := mediaMade.over
end Go.Proofs.Ytlplomofgbmgaaa
