/- LinearLocal: a history is linearizable exactly if its parts for all blocks are, and its beginnings are then. No condition. -/
import Derived.Test.YtnmhnjjehglcfaaGreatPack41
import Derived.Test.YtnmhnjjehglcfaaGreatPack43
import Derived.Test.YtnmhnjjehglcfaaGreatRows
import Derived.WalkKit
import Derived.ProofKit
import Derived.SliceStrings
import Derived.OpenShut
import Derived.ShutString
import Derived.ChangeOld
import Derived.Carry
import Derived.Below

/- The walk of the law LinearLocal. -/
namespace Go.Proofs.YtnmhnjjehglcfaaGreat.Ents
open Go.RowKit Plan HisMath LinMath ModMath Rws Env LayMath
theorem wrap_len (m : Nat) (h : m ≤ 100000) : wrap64 ((m : Int) + 1) = (m : Int) + 1 ∧ IntKind.i64.wrap ((m : Int) + 1) = (m : Int) + 1 := by
  constructor
  · unfold wrap64; omega
  · rw [IntWalk.i64_in _ (by omega)]
set_option maxHeartbeats 8000000 in
set_option maxRecDepth 20000 in
theorem linLocal_any (H : LinearOk) (HEV : EventsOk) (wrong : Bool) (nn : Int) (a : Option Addr) (n c : Nat) (Z : List Int) (w : World) (hz : IsRow .i64 w a n c Z) :
    Calls Tryz.prog 7 #[.slice a n c, .bool wrong, .int .i64 nn] w fun r w' => r = .returned (.bool true) ∧ Below w.heap.size w w' := by
  have HA := Lib.hid (fun W => linAwake_any H W)
  have HL := Lib.hid (fun W => light_any a n c W)
  by_cases hn : (n : Int) ≤ 300
  · rw [decide_eq_true hn] at HL
    have HE := Lib.hid (show Calls Tryz.prog 15 #[.slice a n c, .int .i64 3, .int .i64 12, .bool wrong] w (LMadePost 3 24 wrong w) from HEV.made 3 12 wrong a n c Z w hz (by omega) (by decide) (by decide) (by decide))
    unfold LMadePost at HE
    have HNZ := Lib.hid (fun W => refBNew_any 3 W)
    unfold SPost at HNZ
    have HF := Lib.hid (fun W F G X x q k a m d (hs : SList W G x k q (newB 3)) (h : VList W F a m d X) (hk : k ≤ 100000) (hm : m ≤ 100000) => H.find G F (newB 3) X x a k q m d W hs h (by omega) hm)
    have HR := Lib.hid (fun W F X a m d i (h : VList W F a m d X) (hm : m ≤ 100000) => refRestrict_any F X a m d i W h hm)
    unfold FndPost at HF
    unfold VPost at HR
    have HP := Lib.hid (fun X (h : MadeH 3 24 wrong X) => h.parts (by decide) (by decide) (by decide))
    have HFR := Lib.hid (fun X (h : MadeH 3 24 wrong X) k => h.front (by decide) (by decide) (by decide) k)
    have HG := Lib.hid (fun X (h : MadeH 3 24 wrong X) (hw : wrong = false) => (show CanP (newB 3) X from by subst hw; exact h.good (by decide) (by decide) (by decide)))
    have HNL := Lib.hid (show (newB 3).length = 3 from rfl)
    simp only [Int.cast_ofNat_Int] at HP HFR
    generalize newB 3 = B at *
    have hW := Below.refl w.heap.size w
    clear hz
    go_enter Tryz.func7, Tryz.ntmps7
    go_upto_region 6 with (first
      | (go_at_call 14; ((with_reducible refine (HL.out _).mono ?_); rintro r9 w9 ⟨rfl, rfl⟩))
      | (go_at_call 15; ((with_reducible refine (HE.out).mono ?_); rintro r9 w1 ⟨xa, m, d, X, rfl, lx, h9, hmd⟩; have hml := hmd.len; have hxl := lx.length; have hm : m ≤ 1000 := (by omega); clear hml; replace hW := hW.trans (h9.mono hW.size); clear h9))
      | (go_at_call 16; ((with_reducible refine (HNZ.out _).mono ?_); rintro r9 w2 ⟨ba, bn, bc, rfl, lb, h9⟩; have hbl := lb.length; have hbn : bn ≤ 100000 := (by have := HNL.out; omega); replace lx := lx.same h9; replace hW := hW.trans (h9.mono hW.size); clear h9))
      | (go_at_call 17; ((with_reducible refine (HF.out _ _ _ _ _ _ _ _ _ _ lb lx hbn (by omega)).mono ?_); rintro r9 w3 ⟨_, _, _, _, whole, rfl, -, h9, p1, -, -⟩; replace lx := lx.same h9; replace lb := lb.same h9; replace hW := hW.trans (h9.mono hW.size); clear h9)))
    have hP := Lib.hid (HP.out X hmd)
    have hFR := Lib.hid (HFR.out X hmd)
    have hG := Lib.hid (HG.out X hmd)
    replace p1 := Lib.hid p1
    clear HE HNZ HP HFR HG hmd hbl
    go_wp2_with fail
    have hXL := Lib.hid (fun W (h : Below w3.heap.size w3 W) => lx.same h)
    have hBL := Lib.hid (fun W (h : Below w3.heap.size w3 W) => lb.same h)
    have hcpx := lx.cap
    unfold maxLen at hcpx
    replace hW := Lib.hid hW
    have hV := Below.refl w3.heap.size w3
    clear lx lb
    go_loopw [11, 12] (fun f x wr => ∃ (j : Nat) (ok : Bool), x = .int .i64 (j : Int) ∧ j ≤ 3 ∧ f = .bool ok ∧ Below w3.heap.size w3 wr ∧ RowKit.Hid (ok = true ↔ ∀ i : Nat, i < j → CanP B (restE X (i : Int)))) (fun _ x _ => 3 - (intOf x).toNat)
    case atStart => exact ⟨0, true, rfl, by omega, rfl, hV, Lib.hid ⟨fun _ i hi => absurd hi (Nat.not_lt_zero _), fun _ => rfl⟩⟩
    case round =>
      clear hV
      obtain ⟨j, ok, rfl, hj, rfl, hV, hq⟩ := hrel
      by_cases hlt : j < 3
      · have hjI : (j : Int) < 3 := by omega
        have HN := Lib.hid (fun (b2 b3 : Bool) (h2 : b2 = true ↔ CanP B (restE X (j : Int))) (h3 : b3 = (ok && b2)) => (show b3 = true ↔ ∀ i : Nat, i < j + 1 → CanP B (restE X (i : Int)) from by
          rw [h3, Bool.and_eq_true, hq.out, h2]
          constructor
          · rintro ⟨h4, h5⟩ i hi
            by_cases hij : i < j
            · exact h4 i hij
            · obtain rfl : i = j := by omega
              exact h5
          · intro h4
            exact ⟨fun i hi => h4 i (by omega), h4 j (by omega)⟩))
        have hlr : (restE X (j : Int)).length ≤ 1000 := Nat.le_trans (List.length_filter_le _ _) (by omega)
        clear hq
        cases ok with
        | true =>
          go_wp2_with (first
            | (go_at_call 25; ((with_reducible refine (HR.out _ _ _ _ _ _ _ (hXL.out _ hV) (by omega)).mono ?_); rintro r9 w4 ⟨ra, rn, rc, rfl, lr, h9⟩; have hrn := lr.length; replace hV := hV.trans (h9.mono hV.size); clear h9))
            | (go_at_call 17; ((with_reducible refine (HF.out _ _ _ _ _ _ _ _ _ _ (hBL.out _ hV) lr hbn (by omega)).mono ?_); rintro r9 w5 ⟨_, _, _, _, b2, rfl, -, h9, q1, -, -⟩; have HN2 := Lib.hid (HN.out b2 b2 q1 rfl); replace hV := hV.trans (h9.mono hV.size); clear h9 q1 lr)))
          go_roundw
          case rel => exact ⟨j + 1, b2, by go_num, by omega, rfl, hV, HN2⟩
          case measure => simp [intOf]; omega
        | false =>
          go_wp2_with (first
            | (go_at_call 25; ((with_reducible refine (HR.out _ _ _ _ _ _ _ (hXL.out _ hV) (by omega)).mono ?_); rintro r9 w4 ⟨ra, rn, rc, rfl, lr, h9⟩; have hrn := lr.length; replace hV := hV.trans (h9.mono hV.size); clear h9))
            | (go_at_call 17; ((with_reducible refine (HF.out _ _ _ _ _ _ _ _ _ _ (hBL.out _ hV) lr hbn (by omega)).mono ?_); rintro r9 w5 ⟨_, _, _, _, b2, rfl, -, h9, q1, -, -⟩; have HN2 := Lib.hid (HN.out b2 false q1 rfl); replace hV := hV.trans (h9.mono hV.size); clear h9 q1 lr)))
          go_roundw
          case rel => exact ⟨j + 1, false, by go_num, by omega, rfl, hV, HN2⟩
          case measure => simp [intOf]; omega
      · obtain rfl : j = 3 := by omega
        have hjI : ¬ ((3 : Nat) : Int) < 3 := by omega
        have hall := Lib.hid (Bool.eq_iff_iff.2 (p1.out.trans (hP.out.trans hq.out.symm)))
        obtain ⟨kk, hkk⟩ : ∃ kk : Nat, nn % ((m : Int) + 1) = (kk : Int) := ⟨(nn % ((m : Int) + 1)).toNat, by have := Int.emod_nonneg nn (show ((m : Int) + 1) ≠ 0 by omega); omega⟩
        have hkm : kk ≤ m := by have := Int.emod_lt_of_pos nn (show 0 < ((m : Int) + 1) by omega); omega
        have HM := Lib.hid (fun W => mod_any nn ((m : Int) + 1) (by omega) (by omega) W)
        rw [hkk] at HM
        obtain ⟨hw1, hw2⟩ := wrap_len m (by omega)
        have hkmI : (kk : Int) ≤ (m : Int) := by omega
        have hkd : kk ≤ d := by omega
        have hkdI : (kk : Int) ≤ (d : Int) := by omega
        have hk9 : kk ≤ 100000 := by omega
        have lx := hXL.out _ hV
        have lb := hBL.out _ hV
        have lf := lx.front vrOk kk hkm
        have hc := Lib.hid (HF.out _ _ _ _ _ _ _ _ _ _ lb lf hbn hk9)
        replace HF := Lib.hid (fun (b : Bool) (h : b = true ↔ CanP B (X.take kk)) (hw : whole = true) => h.2 (hFR.out kk (p1.out.1 hw)))
        have hGW := Lib.hid (fun (hw : wrong = false) => p1.out.2 (hG.out hw))
        replace hall := hall.out
        subst hall
        clear hkk hq hP hFR hG p1 lx lb lf HR
        cases whole with
        | false =>
          cases wrong with
          | false => exact absurd (hGW.out rfl) (by decide)
          | true =>
            go_wp2_with (first
              | (go_at_call 18; ((with_reducible refine (HM.out _).mono ?_); rintro r9 w9 ⟨rfl, rfl⟩))
              | (go_at_call 17; ((with_reducible refine (hc.out).mono ?_); rintro r9 w6 ⟨_, _, _, _, part, rfl, -, h9, q1, -, -⟩; have h8 := h9; clear h9 hc))
              | (go_at_call 11; ((with_reducible refine (HA.out _).mono ?_); rintro r9 w9 ⟨rfl, h9⟩; replace h8 := h8.trans (h9.mono h8.size); clear h9)))
            go_ret
            exact ⟨rfl, hW.out.trans ((hV.trans (h8.mono hV.size)).mono hW.out.size)⟩
        | true =>
          cases wrong with
          | false =>
            go_wp2_with (first
              | (go_at_call 18; ((with_reducible refine (HM.out _).mono ?_); rintro r9 w9 ⟨rfl, rfl⟩))
              | (go_at_call 17; ((with_reducible refine (hc.out).mono ?_); rintro r9 w6 ⟨_, _, _, _, part, rfl, -, h9, q1, -, -⟩; have hpt := HF.out part q1 (by trivial); clear q1; have h8 := h9; clear h9 hc))
              | (go_at_call 11; ((with_reducible refine (HA.out _).mono ?_); rintro r9 w9 ⟨rfl, h9⟩; replace h8 := h8.trans (h9.mono h8.size); clear h9)))
            go_ret
            exact ⟨rfl, hW.out.trans ((hV.trans (h8.mono hV.size)).mono hW.out.size)⟩
          | true =>
            go_wp2_with (first
              | (go_at_call 18; ((with_reducible refine (HM.out _).mono ?_); rintro r9 w9 ⟨rfl, rfl⟩))
              | (go_at_call 17; ((with_reducible refine (hc.out).mono ?_); rintro r9 w6 ⟨_, _, _, _, part, rfl, -, h9, q1, -, -⟩; have hpt := HF.out part q1 (by trivial); clear q1; have h8 := h9; clear h9 hc))
              | (go_at_call 11; ((with_reducible refine (HA.out _).mono ?_); rintro r9 w9 ⟨rfl, h9⟩; replace h8 := h8.trans (h9.mono h8.size); clear h9)))
            go_ret
            exact ⟨rfl, hW.out.trans ((hV.trans (h8.mono hV.size)).mono hW.out.size)⟩
  · rw [decide_eq_false hn] at HL
    go_enter Tryz.func7, Tryz.ntmps7
    go_wp2_with (first
      | (go_at_call 14; ((with_reducible refine (HL.out _).mono ?_); rintro r9 w9 ⟨rfl, rfl⟩))
      | (go_at_call 11; ((with_reducible refine (HA.out _).mono ?_); rintro r9 w9 ⟨rfl, h9⟩)))
    go_ret
    exact ⟨rfl, h9⟩
end Go.Proofs.YtnmhnjjehglcfaaGreat.Ents

/- LinearLocal: a history is linearizable exactly if its parts for all blocks are, and its beginnings are then. No condition. -/
namespace Go.Proofs.YtnmhnjjehglcfaaGreat.linearLocal
open Go.ChangeShapes Go.WideShapes Go.ChangeAt Go.RowKit
open Go.ChangeMaps (open_string shut_string)
set_option linter.unusedVariables false

theorem own : ownKnob Tryz.prog.godebug = none := by kernel_rfl
theorem laidOut : laidOutB Tryz.prog = true := by kernel_rfl

theorem walk (a0 : Option Addr) (l0 c0 : Nat) (z0 : List Int) (a1 : Bool) (a2 : Int) (w2 : (Lit.int .i64 a2).wf = true) (w : World) (w0 : IsRow .i64 w a0 l0 c0 z0) :
    Calls Tryz.prog 7 #[.slice a0 l0 c0, .bool a1, .int .i64 a2] w fun e w' => e = .returned (.bool true) ∧ Below w.heap.size w w' := by
  exact Ents.linLocal_any Ents.linearOk Ents.eventsOk a1 a2 a0 l0 c0 z0 w w0

set_option maxRecDepth 100000 in
theorem lifted (os : Os) (started : os.Started) (H : Type) (enc : TypeId × Value → H) :
    ReturnsInHanded {} Tryz.checked os 7 .any (Rows.linearLocalSpec.pre6 enc Tryz.prog Tryz.f7 Rows.linearLocalRow.domain false) (Rows.linearLocalSpec.post enc Tryz.prog Tryz.f7 false true false false) := by
  refine returnsInHanded_of_change (C := Tryz.checked) own started (by kernel_rfl) Tryz.func7
    (ChangeSpec.witness6 (enc := enc) (C := Tryz.checked) false ⟨#[], #[.slice none 0 0, .bool false, .int .i64 0], []⟩ 8 (by kernel_rfl) (by kernel_rfl) (by kernel_rfl) (by kernel_rfl)) ?_
  intro W base args ds gs before hval0 hW hcnd _
  have hval : ∀ (j : Nat) t v, Tryz.f7.params[j]? = some t → args[j]? = some v → Value.okWide Tryz.prog W .any base t v := hval0
  have hW' := hW
  obtain ⟨p, q, hA0, hV, rfl, hfz, hnd⟩ := hW
  have hA : DataW.TrodAll enc Tryz.prog W 0 (fun _ => true) true Tryz.f7.params.toList args.toList ds p := hA0
  rw [Tryz.params7] at hA hval
  obtain ⟨v0, vs0, d0, ds0, p0, q0, hargs, rfl, rfl, h0, r0⟩ := trodAll_cons hA
  obtain ⟨v1, vs1, d1, ds1, p1, q1, rfl, rfl, rfl, h1, r1⟩ := trodAll_cons r0
  obtain ⟨v2, vs2, d2, ds2, p2, q2, rfl, rfl, rfl, h2, r2⟩ := trodAll_cons r1
  obtain ⟨rfl, rfl, rfl⟩ := trodAll_nil r2
  obtain rfl : args = #[v0, v1, v2] := by cases args; simp_all
  obtain ⟨rfl, rfl⟩ := trodVars_none hV
  have k0' := h0
  have lt0 : ∀ x ∈ p0, x.block < W.heap.size := by obtain ⟨m, hm⟩ := h0; exact DataW.trod_lt m _ _ _ hm
  have k1' := h1
  have lt1 : ∀ x ∈ p1, x.block < W.heap.size := by obtain ⟨m, hm⟩ := h1; exact DataW.trod_lt m _ _ _ hm
  have k2' := h2
  have lt2 : ∀ x ∈ p2, x.block < W.heap.size := by obtain ⟨m, hm⟩ := h2; exact DataW.trod_lt m _ _ _ hm
  obtain ⟨a0, l0, c0, rfl⟩ := okWide_slice Tryz.underlying24 (hval 0 24 v0 rfl rfl)
  obtain ⟨z0, w0⟩ : ∃ zs, IsRow .i64 W a0 l0 c0 zs := by
    obtain ⟨fuel, hf⟩ := h0
    rcases open_ints Tryz.underlying24 Tryz.underlying3 (by kernel_rfl) hf with ⟨hcs, _⟩ | ⟨x, l, c, zs, hcs, _, hl, hm, hz, _, hcell, hwz⟩
    · simp [Value.cells] at hcs
      obtain ⟨rfl, rfl, rfl⟩ := hcs
      exact ⟨[], .inl ⟨rfl, rfl, rfl, rfl⟩⟩
    · simp [Value.cells] at hcs
      obtain ⟨rfl, rfl, rfl⟩ := hcs
      exact ⟨zs, .inr ⟨_, rfl, hl, hm, by simpa using hz, hcell, hwz⟩⟩
  obtain ⟨a1, rfl, _, _⟩ := open_bool Tryz.underlying4 (hval 1 4 v1 rfl rfl) h1
  obtain ⟨a2, rfl, _, _, w2⟩ := open_int Tryz.underlying3 (hval 2 3 v2 rfl rfl) h2
  clear hA0 hval0
  refine (walk a0 l0 c0 z0 a1 a2 w2 W w0).mono fun e W' ⟨he, bel⟩ => ?_
  subst he
  exact ⟨_, rfl, _, _, _, [], _, [], hW', trodAll_mk1 (shut_bool Tryz.underlying4 _), (trodAll_cons_mk (Below.trod laidOut (by kernel_rfl) (of_decide_eq_true (by kernel_rfl)) k0' bel lt0) (trodAll_cons_mk (Below.trod laidOut (by kernel_rfl) (of_decide_eq_true (by kernel_rfl)) k1' bel lt1) (trodAll_cons_mk (Below.trod laidOut (by kernel_rfl) (of_decide_eq_true (by kernel_rfl)) k2' bel lt2) trodAll_mk0))), rfl, bel.frame _, fun h => by cases h⟩

theorem over : Rows.linearLocalRow.holds Tryz.pinned (OpenSpec.ofChange Rows.linearLocalSpec) :=
  OpenClaim.holds_of_wide 7 Tryz.f7 rfl rfl rfl rfl rfl rfl rfl ⟨rfl, rfl, rfl, rfl, rfl⟩ rfl rfl rfl rfl rfl (by kernel_rfl) Tryz.func7 (by kernel_rfl)
    (of_decide_eq_true (by kernel_rfl)) (by unfold Func.isWrapper; first | (rw [if_pos (by decide +kernel)]; kernel_rfl) | (rw [if_neg (by decide +kernel)]; exact ⟨rfl, rfl⟩))
    (fun os started H enc _ => lifted os started H enc)
end Go.Proofs.YtnmhnjjehglcfaaGreat.linearLocal

namespace Go.Proofs.YtnmhnjjehglcfaaGreat
theorem linearLocal_holds : Rows.LinearLocalSaid := linearLocal.over
end Go.Proofs.YtnmhnjjehglcfaaGreat
