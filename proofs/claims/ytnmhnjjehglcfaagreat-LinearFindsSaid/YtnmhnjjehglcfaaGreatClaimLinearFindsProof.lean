/- LinearFinds: for histories of one block the program finds a linearization exactly if there is one, and what the block can be at the end. No condition. -/
import Derived.Test.YtnmhnjjehglcfaaGreatPack41
import Derived.Test.YtnmhnjjehglcfaaGreatPack43
import Derived.Test.YtnmhnjjehglcfaaGreatRows
import Derived.WalkKit
import Derived.ProofKit
import Derived.SliceStrings
import Derived.OpenShut
import Derived.ShutString
import Derived.ChangeOld
import Derived.Carry
import Derived.Below

/- The walk of the law LinearFinds. -/
namespace Go.Proofs.YtnmhnjjehglcfaaGreat.Ents
open Go.RowKit Plan HisMath LinMath ModMath CmdMath Rws Env LayMath
theorem zero_list (w : World) : Calls Tryz.prog 16 #[.int .i64 1] w fun r w' => ∃ x c, r = .returned (.slice (some x) 1 c) ∧ SList w' (fun b => w.heap.size ≤ b) (some x) 1 c [zeroC] ∧ Below w.heap.size w w' :=
  (refBNew_any 1 w).mono fun r w' h => by
    obtain ⟨a, n, c, rfl, hl, hb⟩ := h
    have e : newB 1 = [zeroC] := rfl
    rw [e] at hl
    obtain rfl : 1 = n := hl.length
    obtain ⟨x, hx, _⟩ := hl.some' (by decide)
    subst hx
    exact ⟨x, c, rfl, hl.mono fun b _ h => h.resolve_left id, hb⟩
set_option maxHeartbeats 8000000 in
set_option maxRecDepth 20000 in
theorem linFinds_any (H : LinearOk) (HEV : EventsOk) (wrong : Bool) (a : Option Addr) (n c : Nat) (Z : List Int) (w : World) (hz : IsRow .i64 w a n c Z) :
    Calls Tryz.prog 5 #[.slice a n c, .bool wrong] w fun r w' => r = .returned (.bool true) ∧ Below w.heap.size w w' := by
  have HA := Lib.hid (fun W => linAwake_any H W)
  have HL := Lib.hid (fun W => light_any a n c W)
  by_cases hn : (n : Int) ≤ 300
  · rw [decide_eq_true hn] at HL
    have HE := Lib.hid (show Calls Tryz.prog 15 #[.slice a n c, .int .i64 1, .int .i64 9, .bool wrong] w (LMadePost 1 18 wrong w) from HEV.made 1 9 wrong a n c Z w hz (by omega) (by decide) (by decide) (by decide))
    unfold LMadePost at HE
    have HNZ := Lib.hid (fun W => zero_list W)
    have HB2 := Lib.hid (fun W F X a m d (h : VList W F a m d X) (hm : m ≤ 100000) => refBlock_any F zeroC X a m d W h hm)
    have HB1 := Lib.hid (fun W F X a m d (h : VList W F a m d X) (hm : m ≤ 100000) => H.block F zeroC X a m d W h hm)
    have HF := Lib.hid (fun W F G X x q a m d (hs : SList W G x 1 q [zeroC]) (h : VList W F a m d X) (hm : m ≤ 100000) => H.find G F [zeroC] X x a 1 q m d W hs h (by decide) hm)
    have HV1 := Lib.hid (fun W F X a m d (h : VList W F a m d X) (hm : m ≤ 100000) => H.values F zeroC X a m d W h hm)
    have HV2 := Lib.hid (fun W F X a m d (h : VList W F a m d X) (hm : m ≤ 100000) => refValues_any F zeroC X a m d W h hm)
    have HK := Lib.hid (fun W F G I X o x q a m d e p r (hs : SList W G x 1 q [zeroC]) (h : VList W F a m d X) (ho : TList IR W I e p r o) (hm : m ≤ 100000) => refLinCheck_any G F I [zeroC] X o x a e 1 q m d p r W hs h ho (by decide) hm)
    have HSM := Lib.hid (fun W F1 F2 E a1 b1 n1 c1 m1 d1 (l1 : SList W F1 a1 n1 c1 E) (l2 : SList W F2 b1 m1 d1 E) => refBSame_any F1 F2 E a1 b1 n1 c1 m1 d1 W l1 l2)
    unfold FndPost at HF
    unfold BlkPost at HB1 HB2
    unfold ValPost at HV1 HV2
    have hW := Below.refl w.heap.size w
    clear hz
    have HS := Lib.hid (fun X (h : MadeH 1 18 wrong X) => h.single (by decide))
    generalize zeroC = z at *
    go_enter Tryz.func5, Tryz.ntmps5
    go_upto_region 5 with (first
      | (go_at_call 14; ((with_reducible refine (HL.out _).mono ?_); rintro r9 w9 ⟨rfl, rfl⟩))
      | (go_at_call 15; ((with_reducible refine (HE.out).mono ?_); rintro r9 w1 ⟨xa, m, d, X, rfl, lx, h9, hmd⟩; replace hW := hW.trans (h9.mono hW.size); clear h9))
      | (go_at_call 16; ((with_reducible refine (HNZ.out _).mono ?_); rintro r9 w2 ⟨x, q, rfl, lz, h9⟩; replace lx := lx.same h9; replace hW := hW.trans (h9.mono hW.size); clear h9)))
    obtain ⟨hs0, hs1, hs2⟩ := HS.out X hmd
    have hml := hmd.len
    have hxl := lx.length
    have hm : m ≤ 100000 := by omega
    have hq : 1 ≤ q := lz.cap.1
    have hzat := Lib.hid (fun W G (h : SList W G (some x) 1 q [z]) => (show W.cell? x = some (.string z) from by
      obtain ⟨x', s', h1, h2, h3⟩ := str_at h 0 (by decide)
      obtain rfl := Option.some.inj h1
      obtain rfl : z = s' := Option.some.inj h2
      rwa [show x.add 0 = x from by simp [Addr.add]] at h3))
    clear HE HNZ HS hml hxl hmd
    have hz0 := hzat.out _ _ lz
    go_upto_region 8 with (first
      | (go_at_call 19; ((with_reducible refine (HB2.out _ _ _ _ _ _ lx hm).mono ?_); rintro r9 w3 ⟨_, _, _, _, want, rfl, -, h9, p1, -, -⟩; replace lx := lx.same h9; replace lz := lz.same h9; clear hz0; have hz0 := hzat.out _ _ lz; replace hW := hW.trans (h9.mono hW.size); clear h9))
      | (go_at_call 20; ((with_reducible refine (HB1.out _ _ _ _ _ _ lx hm).mono ?_); rintro r9 w4 ⟨oa, on, oc, o, ok, rfl, lo, h9, r1, r2, r3⟩; replace lx := lx.same h9; replace lz := lz.same h9; clear hz0; have hz0 := hzat.out _ _ lz; replace hW := hW.trans (h9.mono hW.size); clear h9; obtain rfl : ok = want := Bool.eq_iff_iff.2 (r1.trans p1.symm); clear p1))
      | (go_at_call 17; ((with_reducible refine (HF.out _ _ _ _ _ _ _ _ _ lz lx hm).mono ?_); rintro r9 w5 ⟨pa, pn, pc, p, is, rfl, lp, h9, s1, s2, s3⟩; replace lx := lx.same h9; replace lz := lz.same h9; replace lo := lo.same h9; clear hz0; have hz0 := hzat.out _ _ lz; replace hW := hW.trans (h9.mono hW.size); clear h9; obtain rfl : is = ok := Bool.eq_iff_iff.2 ((s1.trans hs2).trans ⟨fun h => r1.2 ⟨hs1, h⟩, fun h => (r1.1 h).2⟩); clear r1 s1)))
    clear HB1 HB2 HF hs0 hs1 hs2
    have hdd := (Below.refl w5.heap.size w5).drew
    refine Plan.start (fun W => W.cell? x = some (.string z)) [(0, true), (1, true), (2, true), (3, true), (4, true), (5, true), (6, true), (7, true), (8, true), (9, true), (10, true), (11, true), (12, true), (14, true), (15, true), (16, true), (17, true), (13, false), (18, false), (19, false), (20, true), (21, true)] (by kernel_rfl) (by kernel_rfl) (by kernel_rfl) (by kernel_rfl) (hzat.out _ _ (lz.same hdd)) ?_
    simp only [List.map_cons, List.map_nil, List.getElem?_toArray, List.getElem?_cons_zero, List.getElem?_cons_succ]
    replace lx := lx.same hdd
    replace lz := lz.same hdd
    replace lo := lo.same hdd
    replace lp := lp.same hdd
    replace hW := hW.drew
    clear hdd hz0
    generalize w5.drew = w6 at *
    repeat (first | (refine Plan.take ?_ (by rfl) ?_ ?_; rotate_left; (· rintro w9 u0; go_simp; (try rw [if_neg (by omega)]); all_goals (with_reducible rfl)); simp only [Act.put, List.setIfInBounds_toArray, List.set_cons_zero, List.set_cons_succ]) | (refine Plan.pass (by rfl) ?_; simp only [Act.put, List.setIfInBounds_toArray, List.set_cons_zero, List.set_cons_succ]))
    refine Plan.call (by rfl) 22 _ ?_ (HV1.out _ _ _ _ _ _ lx hm) ?_
    · go_simp
    rintro r9 w7 ⟨ua, un, uc, E1, rfl, lu, h9, a1, a2⟩
    replace lx := lx.same h9
    replace lz := lz.same h9
    replace lo := lo.same h9
    replace lp := lp.same h9
    replace hW := hW.trans (h9.mono hW.size)
    clear h9
    refine ⟨_, rfl, hzat.out _ _ lz, ?_⟩
    simp only [Act.put, List.setIfInBounds_toArray, List.set_cons_zero, List.set_cons_succ]
    refine Plan.call (by rfl) 23 _ ?_ (HV2.out _ _ _ _ _ _ lx hm) ?_
    · go_simp
    rintro r9 w8 ⟨va, vn, vc, E2, rfl, lv, h9, a3, a4⟩
    obtain rfl : E1 = E2 := asc_only a1 a3 (fun u => (a2 u).trans (a4 u).symm)
    clear a1 a2 a3 a4
    replace lu := lu.same h9
    replace lx := lx.same h9
    replace lz := lz.same h9
    replace lo := lo.same h9
    replace lp := lp.same h9
    replace hW := hW.trans (h9.mono hW.size)
    clear h9
    refine ⟨_, rfl, hzat.out _ _ lz, ?_⟩
    simp only [Act.put, List.setIfInBounds_toArray, List.set_cons_zero, List.set_cons_succ]
    refine Plan.call (by rfl) 21 _ ?_ (HSM.out _ _ _ _ _ _ _ _ _ _ lu lv) ?_
    · go_simp
    rintro r9 w10 ⟨rfl, h9⟩
    clear lu lv
    replace lx := lx.same h9
    replace lz := lz.same h9
    replace lo := lo.same h9
    replace lp := lp.same h9
    replace hW := hW.trans (h9.mono hW.size)
    clear h9
    refine ⟨_, rfl, hzat.out _ _ lz, ?_⟩
    simp only [Act.put, List.setIfInBounds_toArray, List.set_cons_zero, List.set_cons_succ]
    repeat (first | (refine Plan.take ?_ (by rfl) ?_ ?_; rotate_left; (· rintro w9 u0; go_simp; (try rw [if_neg (by omega)]); all_goals (with_reducible rfl)); simp only [Act.put, List.setIfInBounds_toArray, List.set_cons_zero, List.set_cons_succ]) | (refine Plan.pass (by rfl) ?_; simp only [Act.put, List.setIfInBounds_toArray, List.set_cons_zero, List.set_cons_succ]))
    refine Plan.ends ?_
    have hon := lo.length
    have hpn := lp.length
    clear HV1 HV2 HSM HL
    cases is with
    | false =>
      obtain rfl := r3 rfl
      obtain rfl := s3 rfl
      obtain rfl : 0 = on := hon
      obtain rfl : 0 = pn := hpn
      clear r2 r3 s2 s3
      go_wp2_with (first
        | (go_at_call 11; ((with_reducible refine (HA.out _).mono ?_); rintro r9 w9 ⟨rfl, h9⟩; replace hW := hW.trans (h9.mono hW.size); clear h9)))
      go_ret
      exact ⟨rfl, hW⟩
    | true =>
      have h1 := r2 rfl
      have h2 := s2 rfl
      clear r2 r3 s2 s3
      go_wp2_with (first
        | (go_at_call 13; ((with_reducible refine (HK.out _ _ _ _ _ _ _ _ _ _ _ _ _ _ lz lx lo hm).mono ?_); rw [h1]; rintro r9 w11 ⟨rfl, h9⟩; replace lx := lx.same h9; replace lz := lz.same h9; replace lp := lp.same h9; clear lo; replace hW := hW.trans (h9.mono hW.size); clear h9))
        | (go_at_call 13; ((with_reducible refine (HK.out _ _ _ _ _ _ _ _ _ _ _ _ _ _ lz lx lp hm).mono ?_); rw [h2]; rintro r9 w12 ⟨rfl, h9⟩; clear lp; replace hW := hW.trans (h9.mono hW.size); clear h9))
        | (go_at_call 11; ((with_reducible refine (HA.out _).mono ?_); rintro r9 w9 ⟨rfl, h9⟩; replace hW := hW.trans (h9.mono hW.size); clear h9)))
      go_ret
      exact ⟨rfl, hW⟩
  · rw [decide_eq_false hn] at HL
    go_enter Tryz.func5, Tryz.ntmps5
    go_wp2_with (first
      | (go_at_call 14; ((with_reducible refine (HL.out _).mono ?_); rintro r9 w9 ⟨rfl, rfl⟩))
      | (go_at_call 11; ((with_reducible refine (HA.out _).mono ?_); rintro r9 w9 ⟨rfl, h9⟩)))
    go_ret
    exact ⟨rfl, h9⟩
end Go.Proofs.YtnmhnjjehglcfaaGreat.Ents

/- LinearFinds: for histories of one block the program finds a linearization exactly if there is one, and what the block can be at the end. No condition. -/
namespace Go.Proofs.YtnmhnjjehglcfaaGreat.linearFinds
open Go.ChangeShapes Go.WideShapes Go.ChangeAt Go.RowKit
open Go.ChangeMaps (open_string shut_string)
set_option linter.unusedVariables false

theorem own : ownKnob Tryz.prog.godebug = none := by kernel_rfl
theorem laidOut : laidOutB Tryz.prog = true := by kernel_rfl

theorem walk (a0 : Option Addr) (l0 c0 : Nat) (z0 : List Int) (a1 : Bool) (w : World) (w0 : IsRow .i64 w a0 l0 c0 z0) :
    Calls Tryz.prog 5 #[.slice a0 l0 c0, .bool a1] w fun e w' => e = .returned (.bool true) ∧ Below w.heap.size w w' := by
  exact Ents.linFinds_any Ents.linearOk Ents.eventsOk a1 a0 l0 c0 z0 w w0

set_option maxRecDepth 100000 in
theorem lifted (os : Os) (started : os.Started) (H : Type) (enc : TypeId × Value → H) :
    ReturnsInHanded {} Tryz.checked os 5 .any (Rows.linearFindsSpec.pre6 enc Tryz.prog Tryz.f5 Rows.linearFindsRow.domain false) (Rows.linearFindsSpec.post enc Tryz.prog Tryz.f5 false true false false) := by
  refine returnsInHanded_of_change (C := Tryz.checked) own started (by kernel_rfl) Tryz.func5
    (ChangeSpec.witness6 (enc := enc) (C := Tryz.checked) false ⟨#[], #[.slice none 0 0, .bool false], []⟩ 8 (by kernel_rfl) (by kernel_rfl) (by kernel_rfl) (by kernel_rfl)) ?_
  intro W base args ds gs before hval0 hW hcnd _
  have hval : ∀ (j : Nat) t v, Tryz.f5.params[j]? = some t → args[j]? = some v → Value.okWide Tryz.prog W .any base t v := hval0
  have hW' := hW
  obtain ⟨p, q, hA0, hV, rfl, hfz, hnd⟩ := hW
  have hA : DataW.TrodAll enc Tryz.prog W 0 (fun _ => true) true Tryz.f5.params.toList args.toList ds p := hA0
  rw [Tryz.params5] at hA hval
  obtain ⟨v0, vs0, d0, ds0, p0, q0, hargs, rfl, rfl, h0, r0⟩ := trodAll_cons hA
  obtain ⟨v1, vs1, d1, ds1, p1, q1, rfl, rfl, rfl, h1, r1⟩ := trodAll_cons r0
  obtain ⟨rfl, rfl, rfl⟩ := trodAll_nil r1
  obtain rfl : args = #[v0, v1] := by cases args; simp_all
  obtain ⟨rfl, rfl⟩ := trodVars_none hV
  have k0' := h0
  have lt0 : ∀ x ∈ p0, x.block < W.heap.size := by obtain ⟨m, hm⟩ := h0; exact DataW.trod_lt m _ _ _ hm
  have k1' := h1
  have lt1 : ∀ x ∈ p1, x.block < W.heap.size := by obtain ⟨m, hm⟩ := h1; exact DataW.trod_lt m _ _ _ hm
  obtain ⟨a0, l0, c0, rfl⟩ := okWide_slice Tryz.underlying24 (hval 0 24 v0 rfl rfl)
  obtain ⟨z0, w0⟩ : ∃ zs, IsRow .i64 W a0 l0 c0 zs := by
    obtain ⟨fuel, hf⟩ := h0
    rcases open_ints Tryz.underlying24 Tryz.underlying3 (by kernel_rfl) hf with ⟨hcs, _⟩ | ⟨x, l, c, zs, hcs, _, hl, hm, hz, _, hcell, hwz⟩
    · simp [Value.cells] at hcs
      obtain ⟨rfl, rfl, rfl⟩ := hcs
      exact ⟨[], .inl ⟨rfl, rfl, rfl, rfl⟩⟩
    · simp [Value.cells] at hcs
      obtain ⟨rfl, rfl, rfl⟩ := hcs
      exact ⟨zs, .inr ⟨_, rfl, hl, hm, by simpa using hz, hcell, hwz⟩⟩
  obtain ⟨a1, rfl, _, _⟩ := open_bool Tryz.underlying4 (hval 1 4 v1 rfl rfl) h1
  clear hA0 hval0
  refine (walk a0 l0 c0 z0 a1 W w0).mono fun e W' ⟨he, bel⟩ => ?_
  subst he
  exact ⟨_, rfl, _, _, _, [], _, [], hW', trodAll_mk1 (shut_bool Tryz.underlying4 _), (trodAll_cons_mk (Below.trod laidOut (by kernel_rfl) (of_decide_eq_true (by kernel_rfl)) k0' bel lt0) (trodAll_cons_mk (Below.trod laidOut (by kernel_rfl) (of_decide_eq_true (by kernel_rfl)) k1' bel lt1) trodAll_mk0)), rfl, bel.frame _, fun h => by cases h⟩

theorem over : Rows.linearFindsRow.holds Tryz.pinned (OpenSpec.ofChange Rows.linearFindsSpec) :=
  OpenClaim.holds_of_wide 5 Tryz.f5 rfl rfl rfl rfl rfl rfl rfl ⟨rfl, rfl, rfl, rfl, rfl⟩ rfl rfl rfl rfl rfl (by kernel_rfl) Tryz.func5 (by kernel_rfl)
    (of_decide_eq_true (by kernel_rfl)) (by unfold Func.isWrapper; first | (rw [if_pos (by decide +kernel)]; kernel_rfl) | (rw [if_neg (by decide +kernel)]; exact ⟨rfl, rfl⟩))
    (fun os started H enc _ => lifted os started H enc)
end Go.Proofs.YtnmhnjjehglcfaaGreat.linearFinds

namespace Go.Proofs.YtnmhnjjehglcfaaGreat
theorem linearFinds_holds : Rows.LinearFindsSaid := linearFinds.over
end Go.Proofs.YtnmhnjjehglcfaaGreat
