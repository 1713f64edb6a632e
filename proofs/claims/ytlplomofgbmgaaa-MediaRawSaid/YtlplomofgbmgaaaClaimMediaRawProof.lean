/- MediaRaw: the program's Sync, Crash and Volatile answer as the document's own, for any device and any list of numbers. No condition. -/
import Derived.Test.YtlplomofgbmgaaaPack15
import Derived.Test.YtlplomofgbmgaaaRows
import Derived.WalkKit
import Derived.ProofKit
import Derived.SliceStrings
import Derived.OpenShut
import Derived.ShutString
import Derived.ChangeOld
import Derived.Carry
import Derived.Below
import Derived.SizedLaws

/- The walk of the law of any device. -/
namespace Go.Proofs.Ytlplomofgbmgaaa
open Go.RowKit Plan ZnsMath MedMath

set_option maxHeartbeats 2000000 in
set_option maxRecDepth 20000 in
theorem mediaRaw_all (D : Dev) (a : Option Addr) (len cap : Nat) (ka : Option Addr) (kl kc : Nat) (zs : List Int) (w : World) (hz : IsZones w a len cap D.zones) (hk : IsRow .i64 w ka kl kc zs) (hm : len ≤ 35184372088832) :
    Calls Try.prog 3 #[devV D a len cap, .slice ka kl kc] w fun e w' => e = .returned (.bool true) ∧ Below w.heap.size w w' := by
  have hB : Below w.heap.size w (w.alloc (devRow D.size D.maxOpen D.maxActive a len cap)) := (Below.refl _ _).alloc (Nat.le_refl _) _
  have hR := fun i (hi : i < len) => (hz.on hB (Nat.le_refl _)).zone i hi
  have hg := medAgree_any D a len cap zs ka kl kc _ (hz.on hB (Nat.le_refl _)) (row_keep hk hB) hm
  have ha := fun W => awake_med W
  have HB := Lib.hid hB
  have HR := Lib.hid hR
  have HG := Lib.hid hg
  have HA := Lib.hid ha
  clear hB hR hg ha hz hk
  obtain ⟨size, op, act, Z⟩ := D
  go_enter Try.func3, Try.ntmps3
  go_wp2_with fail
  go_loop [5, 6] (fun p c => ∃ (k : Nat) (n : Int), c = .int .i64 k ∧ k ≤ len ∧ p = .int .i64 n) (fun _ c => len - (intOf c).toNat)
  case atStart => exact ⟨0, _, rfl, by omega, rfl⟩
  case round =>
    obtain ⟨k, n, rfl, hk, rfl⟩ := hrel
    by_cases hlt : k < len
    · obtain ⟨x, z, sa, sl, sc, rfl, hzk, ⟨zc0, zc1, zc2⟩, hzs⟩ := HR.out k hlt
      have hkI : (k : Int) < (len : Int) := by omega
      have hsm := hzs.len_le
      go_wp2_with fail
      go_round
      case rel => exact ⟨k + 1, _, by go_num, by omega, rfl⟩
      case measure => simp [intOf]; omega
    · obtain rfl : k = len := by omega
      by_cases hn : (900 : Int) < n
      all_goals
        go_wp2_with (first
          | (go_at_call 7; ((with_reducible refine HG.out.mono ?_); rintro e w2 ⟨rfl, hb2⟩; have b2 := HB.out.trans (hb2.mono (by simp))))
          | (go_at_call 8; ((with_reducible refine (HA.out _).mono ?_); rintro e w3 ⟨rfl, hb3⟩)))
        go_ret
        first
          | exact ⟨rfl, b2.trans (hb3.mono b2.size)⟩
          | exact ⟨rfl, HB.out.trans (hb3.mono (by simp))⟩
end Go.Proofs.Ytlplomofgbmgaaa

/- MediaRaw: the program's Sync, Crash and Volatile answer as the document's own, for any device and any list of numbers. No condition. -/
namespace Go.Proofs.Ytlplomofgbmgaaa.mediaRaw
open Go.ChangeShapes Go.WideShapes Go.ChangeAt Go.RowKit
open Go.ChangeMaps (open_string shut_string)
set_option linter.unusedVariables false

theorem own : ownKnob Try.prog.godebug = none := by kernel_rfl
theorem laidOut : laidOutB Try.prog = true := by kernel_rfl

theorem walk (d0 : ZnsMath.Dev) (a0 : Option Addr) (l0 c0 : Nat) (a1 : Option Addr) (l1 c1 : Nat) (z1 : List Int) (w : World) (hm : l0 ≤ 35184372088832) (w0 : IsZones w a0 l0 c0 d0.zones) (w1 : IsRow .i64 w a1 l1 c1 z1) :
    Calls Try.prog 3 #[.agg #[.int .i64 d0.size, .int .i64 d0.maxOpen, .int .i64 d0.maxActive, .slice a0 l0 c0], .slice a1 l1 c1] w fun e w' => e = .returned (.bool true) ∧ Below w.heap.size w w' := by
  exact mediaRaw_all d0 a0 l0 c0 a1 l1 c1 z1 w w0 w1 hm

set_option maxRecDepth 100000 in
theorem lifted (os : Os) (started : os.Started) (H : Type) (enc : TypeId × Value → H) :
    ReturnsInHanded {} Try.checked os 3 .any (Rows.mediaRawSpec.pre6 enc Try.prog Try.f3 Rows.mediaRawRow.domain false) (Rows.mediaRawSpec.post enc Try.prog Try.f3 false true false false) := by
  refine returnsInHanded_of_change_sized (C := Try.checked) own started (by kernel_rfl) Try.func3
    (ChangeSpec.witness6 (enc := enc) (C := Try.checked) false ⟨#[], #[.agg #[.int .i64 0, .int .i64 0, .int .i64 0, .slice none 0 0], .slice none 0 0], []⟩ 8 (by kernel_rfl) (by kernel_rfl) (by kernel_rfl) (by kernel_rfl)) ?_
  intro W base args ds gs before hval0 hW hcnd hsz0 _
  have hsz : (DataW.weightsEach Try.prog (Try.f3.params.toList ++ Rows.mediaRawSpec.plain.varTypes Try.prog) (ds ++ gs)).all (· ≤ reachBytes) = true := hsz0
  have hval : ∀ (j : Nat) t v, Try.f3.params[j]? = some t → args[j]? = some v → Value.okWide Try.prog W .any base t v := hval0
  have hW' := hW
  obtain ⟨p, q, hA0, hV, rfl, hfz, hnd⟩ := hW
  have hA : DataW.TrodAll enc Try.prog W 0 (fun _ => true) true Try.f3.params.toList args.toList ds p := hA0
  rw [Try.params3] at hA hval hsz
  obtain ⟨v0, vs0, d0, ds0, p0, q0, hargs, rfl, rfl, h0, r0⟩ := trodAll_cons hA
  obtain ⟨v1, vs1, d1, ds1, p1, q1, rfl, rfl, rfl, h1, r1⟩ := trodAll_cons r0
  obtain ⟨rfl, rfl, rfl⟩ := trodAll_nil r1
  obtain rfl : args = #[v0, v1] := by cases args; simp_all
  obtain ⟨rfl, rfl⟩ := trodVars_none hV
  have k0' := h0
  have lt0 : ∀ x ∈ p0, x.block < W.heap.size := by obtain ⟨m, hm⟩ := h0; exact DataW.trod_lt m _ _ _ hm
  have k1' := h1
  have lt1 : ∀ x ∈ p1, x.block < W.heap.size := by obtain ⟨m, hm⟩ := h1; exact DataW.trod_lt m _ _ _ hm
  obtain ⟨d0, a0, l0, c0, rfl, w0⟩ := open_dev (hval 0 24 v0 rfl rfl) h0
  obtain ⟨a1, l1, c1, rfl⟩ := okWide_slice Try.underlying25 (hval 1 25 v1 rfl rfl)
  obtain ⟨z1, w1⟩ : ∃ zs, IsRow .i64 W a1 l1 c1 zs := by
    obtain ⟨fuel, hf⟩ := h1
    rcases open_ints Try.underlying25 Try.underlying3 (by kernel_rfl) hf with ⟨hcs, _⟩ | ⟨x, l, c, zs, hcs, _, hl, hm, hz, _, hcell, hwz⟩
    · simp [Value.cells] at hcs
      obtain ⟨rfl, rfl, rfl⟩ := hcs
      exact ⟨[], .inl ⟨rfl, rfl, rfl, rfl⟩⟩
    · simp [Value.cells] at hcs
      obtain ⟨rfl, rfl, rfl⟩ := hcs
      exact ⟨zs, .inr ⟨_, rfl, hl, hm, by simpa using hz, hcell, hwz⟩⟩
  have hm : l0 ≤ 35184372088832 := by
    rcases dev_len h0 with h | ⟨n, hn, hle⟩
    · omega
    · have hq : n ≤ reachBytes := of_decide_eq_true (List.all_eq_true.1 hsz n (DataW.weights_mem_each (j := 0) (t := 24) rfl rfl n hn))
      have hr : reachBytes = 140737488351232 := rfl
      omega
  clear hA0 hval0 hsz hsz0
  refine (walk d0 a0 l0 c0 a1 l1 c1 z1 W hm w0 w1).mono fun e W' ⟨he, bel⟩ => ?_
  subst he
  exact ⟨_, rfl, _, _, _, [], _, [], hW', trodAll_mk1 (shut_bool Try.underlying4 _), (trodAll_cons_mk (Below.trod laidOut (by kernel_rfl) (of_decide_eq_true (by kernel_rfl)) k0' bel lt0) (trodAll_cons_mk (Below.trod laidOut (by kernel_rfl) (of_decide_eq_true (by kernel_rfl)) k1' bel lt1) trodAll_mk0)), rfl, bel.frame _, fun h => by cases h⟩

theorem over : Rows.mediaRawRow.holds Try.pinned (OpenSpec.ofChange Rows.mediaRawSpec) :=
  OpenClaim.holds_of_wide 3 Try.f3 rfl rfl rfl rfl rfl rfl rfl ⟨rfl, rfl, rfl, rfl, rfl⟩ rfl rfl rfl rfl rfl (by kernel_rfl) Try.func3 (by kernel_rfl)
    (of_decide_eq_true (by kernel_rfl)) (by unfold Func.isWrapper; first | (rw [if_pos (by decide +kernel)]; kernel_rfl) | (rw [if_neg (by decide +kernel)]; exact ⟨rfl, rfl⟩))
    (fun os started H enc _ => lifted os started H enc)
end Go.Proofs.Ytlplomofgbmgaaa.mediaRaw

namespace Go.Proofs.Ytlplomofgbmgaaa
theorem mediaRaw_holds : Rows.MediaRawSaid := mediaRaw.over
end Go.Proofs.Ytlplomofgbmgaaa
