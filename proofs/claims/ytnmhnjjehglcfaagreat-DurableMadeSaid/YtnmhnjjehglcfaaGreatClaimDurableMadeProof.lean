/- DurableMade: what is allowed for histories of writes, trims and flushes is what the document's own says. No condition. -/
import Derived.Test.YtnmhnjjehglcfaaGreatPack28
import Derived.Test.YtnmhnjjehglcfaaGreatRows
import Derived.WalkKit
import Derived.ProofKit
import Derived.SliceStrings
import Derived.OpenShut
import Derived.ShutString
import Derived.ChangeOld
import Derived.Carry
import Derived.Below

/- A list that is written out, as one of the walk's own. -/
namespace Go.Proofs.YtnmhnjjehglcfaaGreat.Env
open Go.RowKit Plan Ents Rws
section
variable {w W : World} {T : List Thing} {α : Type} {R : Row α}
theorem Env.lit (hR : R.Ok) (K : Env w W T) (L : List α) (n : Nat) (hl : L.length = n) (hn : n ≤ maxLen) : Env w (W.alloc (.cells (R.all L).toArray R.et)) (lst R (slv W.heap.size n n) n L :: T) :=
  K.cons ((Below.refl _ _).alloc (Nat.le_refl _) _) (show Thing.holds w.heap.size (W.alloc (.cells (R.all L).toArray R.et)) (lst R (slv W.heap.size n n) n L) from by
    have := World.ownsRow_lit (base := w.heap.size) (e := R.et) (size := R.sz) W (R.all L).toArray n K.hb.size hn (by rw [List.size_toArray, all_length hR, hl])
    exact this) (fun g hg => by obtain rfl := Option.some.inj hg; exact Nat.le_refl _)
end
end Go.Proofs.YtnmhnjjehglcfaaGreat.Env

/- The walk of the law DurableMade. -/
namespace Go.Proofs.YtnmhnjjehglcfaaGreat.Ents
open Go.RowKit Plan HisMath LinMath DurMath ModMath CmdMath Rws Env LayMath
theorem u8_arg (x : Int) (h0 : 0 ≤ x) : ∃ y : Nat, y ≤ 5 ∧ IntKind.i64.wrap (1 + IntKind.i64.wrap (x.tmod 6)) = ((1 + y : Nat) : Int) := by
  have h1 : x.tmod 6 = x % 6 := Int.tmod_eq_emod_of_nonneg h0
  refine ⟨(x % 6).toNat, by omega, ?_⟩
  rw [h1, IntWalk.i64_in (x % 6) (by omega), IntWalk.i64_in _ (by omega)]
  omega
theorem u8_value (x : Int) (h0 : 0 ≤ x) : ∃ v : ByteArray, ∀ W, Calls Tryz.prog 29 #[.int .i64 (IntKind.i64.wrap (1 + IntKind.i64.wrap (x.tmod 6)))] W fun e w' => e = .returned (.string v) ∧ Below W.heap.size W w' := by
  obtain ⟨y, hy, he⟩ := u8_arg x h0
  rw [he]
  exact ⟨_, fun W => value_any (1 + y) (by omega) W⟩
set_option maxHeartbeats 8000000 in
set_option maxRecDepth 20000 in
theorem durMadeLaw_any (H : DurableOk) (xa xb xc : Int) (ha0 : 0 ≤ xa) (hb0 : 0 ≤ xb) (hc0 : 0 ≤ xc) (a : Option Addr) (n c : Nat) (Z : List Int) (w : World) (hz : IsRow .i64 w a n c Z) :
    Calls Tryz.prog 9 #[.slice a n c, .int .u8 xa, .int .u8 xb, .int .u8 xc] w fun r w' => r = .returned (.bool true) ∧ Below w.heap.size w w' := by
  have HA := Lib.hid (fun W => durAwake_any H W)
  have HL := Lib.hid (fun W => light_any a n c W)
  by_cases hn3 : (n : Int) ≤ 300
  · rw [decide_eq_true hn3] at HL
    have HM := Lib.hid (durMade_any a n c Z w hz (by omega))
    unfold DMadePost at HM
    have HNZ := Lib.hid (fun W => refBNew_any 3 W)
    unfold SPost at HNZ
    obtain ⟨va, HVA0⟩ := u8_value xa ha0
    obtain ⟨vb, HVB0⟩ := u8_value xb hb0
    obtain ⟨vc, HVC0⟩ := u8_value xc hc0
    have HVA := Lib.hid HVA0
    have HVB := Lib.hid HVB0
    have HVB64 := Lib.hid (fun W => (show Calls Tryz.prog 29 #[.int .i64 (wrap64 (1 + wrap64 (xb.tmod 6)))] W fun e w' => e = .returned (.string vb) ∧ Below W.heap.size W w' from by
      have h9 := HVB0 W
      rwa [show IntKind.i64.wrap (1 + IntKind.i64.wrap (xb.tmod 6)) = wrap64 (1 + wrap64 (xb.tmod 6)) from by
        have h1 : xb.tmod 6 = xb % 6 := Int.tmod_eq_emod_of_nonneg hb0
        rw [h1, IntWalk.i64_in (xb % 6) (by omega), IntWalk.i64_in _ (by omega)]
        unfold wrap64
        omega] at h9))
    have HVC := Lib.hid HVC0
    have HHA := Lib.hid ha0
    have HHB := Lib.hid hb0
    have HHC := Lib.hid hc0
    have K := Env.start w
    clear hz hn3 HVA0 HVB0 HVC0 ha0 hb0 hc0
    have HB3 := Lib.hid (show (newB 3).length = 3 from rfl)
    generalize newB 3 = B at *
    go_enter Tryz.func9, Tryz.ntmps9
    go_upto_region 5 with (first
      | (go_at_call 14; ((with_reducible refine (HL.out _).mono ?_); rintro r9 w9 ⟨rfl, rfl⟩))
      | (go_at_call 32; ((with_reducible refine (HM.out).mono ?_); rintro r9 w1 ⟨hv, X, rfl, ho, hb, hR, hx5, -⟩; replace K := (K.got hb ho).1; clear ho hb))
      | (go_at_call 16; ((with_reducible refine (HNZ.out _).mono ?_); rintro r9 w2 ⟨za, zn, zc, rfl, lz, hb⟩; have HW2 := K.hb.trans (hb.mono K.hb.size); replace K := K.on hb)))
    clear HL HM HNZ
    obtain rfl : 3 = zn := HB3.out.symm.trans lz.length
    obtain ⟨hxa, hxc, rfl, lx⟩ := K.any vrOk 0 rfl
    have hm5 : X.length ≤ 100000 := by omega
    have hzc := lz.cap.1
    obtain ⟨zx, s0, rfl, hs0, -⟩ := str_at lz 0 (by decide)
    have HZ0 := Lib.hid (fun W (h : Below w2.heap.size w2 W) => (show W.cell? zx = some (.string s0) from by
      obtain ⟨x9, s9, h1, h2, h3⟩ := str_at (lz.same h) 0 (by decide)
      obtain rfl := Option.some.inj h1
      rw [hs0] at h2
      obtain rfl := Option.some.inj h2
      rwa [show zx.add 0 = zx from by simp [Addr.add]] at h3))
    have HG := Lib.hid (fun W (h : Below w2.heap.size w2 W) F3 X3 (i : Int) a3 q (hx : SList W F3 a3 3 q X3) => durAgree_any H _ _ F3 B X X3 i _ _ a3 3 zc X.length hxc 3 q W (lz.same h) (lx.same h) hx (by decide) hm5 (by decide))
    have HRA := Lib.hid (fun W (h : Below w2.heap.size w2 W) (i : Int) => refAllowed_any _ _ B X i _ _ 3 zc X.length hxc W (lz.same h) (lx.same h) hm5)
    unfold SPost at HRA
    have HBW := Lib.hid HW2
    clear K lz hb HW2 hs0 lx
    have K := Env.start w2
    refine Plan.start (fun W => W.cell? zx = some (.string s0)) [(0, true), (1, true), (2, true), (3, true), (5, true), (6, true), (7, true), (8, true), (9, true), (10, true), (11, true), (4, false), (12, false), (13, false), (14, true)] (by kernel_rfl) (by kernel_rfl) (by kernel_rfl) (by kernel_rfl) (HZ0.out _ K.drew.hb) ?_
    simp only [List.map_cons, List.map_nil, List.getElem?_toArray, List.getElem?_cons_zero, List.getElem?_cons_succ]
    replace K := K.drew
    generalize World.drew _ = w3 at *
    repeat (first | (refine Plan.take ?_ (by rfl) ?_ ?_; rotate_left; (· rintro w9 u0; go_simp; (try rw [if_neg (by omega)]); all_goals (with_reducible rfl)); simp only [Act.put, List.setIfInBounds_toArray, List.set_cons_zero, List.set_cons_succ]) | (refine Plan.pass (by rfl) ?_; simp only [Act.put, List.setIfInBounds_toArray, List.set_cons_zero, List.set_cons_succ]))
    refine Plan.call (by rfl) 29 _ ?_ (HVA.out _) ?_
    · go_simp
    rintro r9 w4 ⟨rfl, h9⟩
    replace K := K.on h9
    clear h9
    refine ⟨_, rfl, HZ0.out _ K.hb, ?_⟩
    simp only [Act.put, List.setIfInBounds_toArray, List.set_cons_zero, List.set_cons_succ]
    refine Plan.call (by rfl) 29 _ ?_ (HVC.out _) ?_
    · go_simp
    rintro r9 w5 ⟨rfl, h9⟩
    replace K := K.on h9
    clear h9
    refine ⟨_, rfl, HZ0.out _ K.hb, ?_⟩
    simp only [Act.put, List.setIfInBounds_toArray, List.set_cons_zero, List.set_cons_succ]
    have K9 : Env w2 (w5.alloc (.cells #[.string va, .string s0, .string vc] 9)) (Env.lst SR (Env.slv w5.heap.size 3 3) 3 [va, s0, vc] :: []) := K.lit srOk [va, s0, vc] 3 rfl (by unfold maxLen; decide)
    refine Plan.make (by rfl) (.slice (some ⟨w5.heap.size, 0, none⟩) 3 3) (w5.alloc (.cells #[.string va, .string s0, .string vc] 9)) ?_ (HZ0.out _ K9.hb) ?_
    · go_simp
    simp only [Act.put, List.setIfInBounds_toArray, List.set_cons_zero, List.set_cons_succ]
    clear K
    have K := K9
    clear K9
    generalize w5.heap.size = gf at *
    generalize w5.alloc (.cells #[.string va, .string s0, .string vc] 9) = w6 at *
    repeat (first | (refine Plan.take ?_ (by rfl) ?_ ?_; rotate_left; (· rintro w9 u0; go_simp; (try rw [if_neg (by omega)]); all_goals (with_reducible rfl)); simp only [Act.put, List.setIfInBounds_toArray, List.set_cons_zero, List.set_cons_succ]) | (refine Plan.pass (by rfl) ?_; simp only [Act.put, List.setIfInBounds_toArray, List.set_cons_zero, List.set_cons_succ]))
    refine Plan.ends ?_
    clear HVA HVC
    obtain ⟨X3, hX3, hl3⟩ : ∃ X3, X3 = [va, s0, vc] ∧ X3.length = 3 := ⟨_, rfl, rfl⟩
    rw [← hX3] at K
    clear hX3
    go_upto_if 37 with fail
    go_cut [] (fun wx => ∃ X3 : List ByteArray, X3.length = 3 ∧ Env w2 wx [Env.lst SR (Env.slv gf 3 3) 3 X3])
    case first =>
      obtain ⟨q, hq⟩ : ∃ q, (xb.tmod 2 == 0) = q := ⟨_, rfl⟩
      cases q with
      | true =>
        obtain ⟨s1, hs1⟩ : ∃ s1, X3[1]? = some s1 := ⟨_, List.getElem?_eq_getElem (by omega)⟩
        go_wp2_with (first
          | (go_at_call 29; ((with_reducible refine (HVB.out _).mono ?_); rintro r9 w7 ⟨rfl, h9⟩; replace K := K.on h9; clear h9; obtain ⟨z1, f1⟩ := K.own1 srOk rfl 0 rfl (k := 1) hs1 (u := .string s1) rfl; have K9 := (K.set1 srOk rfl 0 rfl (k := 1) (by decide) vb (u := .string vb) rfl).1; simp only [List.set] at K9))
          | (go_at_call 29; ((with_reducible refine (HVB64.out _).mono ?_); rintro r9 w7 ⟨rfl, h9⟩; replace K := K.on h9; clear h9; obtain ⟨z1, f1⟩ := K.own1 srOk rfl 0 rfl (k := 1) hs1 (u := .string s1) rfl; have K9 := (K.set1 srOk rfl 0 rfl (k := 1) (by decide) vb (u := .string vb) rfl).1; simp only [List.set] at K9)))
        go_meet
        exact ⟨X3.set 1 vb, by rw [List.length_set]; exact hl3, K9⟩
      | false =>
        go_wp2_with fail
        go_meet
        exact ⟨X3, hl3, K⟩
    case rest =>
      clear K hl3
      obtain ⟨X3, hl3, K⟩ := hcut
      go_wp2_with fail
      go_loopw [12] (fun x wr => ∃ (i : Nat) (X3 : List ByteArray), x = .int .i64 (i : Int) ∧ i ≤ 3 ∧ X3.length = 3 ∧ Env w2 wr [Env.lst SR (Env.slv gf 3 3) 3 X3]) (fun x _ => 3 - (intOf x).toNat)
      case atStart => exact ⟨0, X3, rfl, by omega, hl3, K⟩
      case round =>
        clear K hl3
        obtain ⟨i, X3, rfl, hi, hl3, K⟩ := hrel
        by_cases hlt : i < 3
        · have hiI : (i : Int) < 3 := by omega
          go_upto_region 12 with (first
            | (go_at_call 33; ((with_reducible refine (HRA.out _ K.hb _).mono ?_); rintro r9 w7 ⟨ua, un, uc, rfl, lu, h9⟩; replace K := K.on h9; clear h9)))
          have huc := lu.cap
          unfold maxLen at huc
          go_cut [64] (fun s wx => ∃ q : Bool, s = .bool q ∧ (q = true → 0 < un) ∧ w7 = wx)
          case first =>
            by_cases hu : 0 < un
            · have hu1 : (0 : Int) < (un : Int) := by omega
              go_wp2_with fail
              go_meet
              exact ⟨_, rfl, fun _ => hu, rfl⟩
            · have hu1 : ¬ (0 : Int) < (un : Int) := by omega
              go_wp2_with fail
              go_meet
              exact ⟨false, rfl, (fun h => by cases h), rfl⟩
          case rest =>
            obtain ⟨q, rfl, hq, rfl⟩ := hcut
            go_upto_if 64 with fail
            go_cut [] (fun wx => ∃ X3 : List ByteArray, X3.length = 3 ∧ Env w2 wx [Env.lst SR (Env.slv gf 3 3) 3 X3])
            case first =>
              cases q with
              | true =>
                have hu := hq rfl
                go_upto_region 13 with fail
                obtain ⟨sm, hsm, hs255⟩ : ∃ s : Nat, IntKind.u8.wrap (xa + xb) = (s : Int) ∧ s ≤ 255 := ⟨(IntKind.u8.wrap (xa + xb)).toNat, by unfold IntKind.wrap; simp [IntKind.bits, IntKind.signed]; omega, by unfold IntKind.wrap; simp [IntKind.bits, IntKind.signed]; omega⟩
                obtain ⟨k, hkd, hkl⟩ : ∃ k : Nat, sm % un = k ∧ k < un := ⟨_, rfl, Nat.mod_lt _ hu⟩
                have hk1 : ((sm : Int) % (un : Int)) = (k : Int) := by omega
                have hk2 : ((sm : Int).tmod (un : Int)) = (k : Int) := by rw [Int.tmod_eq_emod_of_nonneg (by omega)]; exact hk1
                have hw1 : IntKind.i64.wrap (sm : Int) = (sm : Int) := IntWalk.i64_in _ (by omega)
                have hw3 : IntKind.i64.wrap (k : Int) = (k : Int) := IntWalk.i64_in _ (by omega)
                have hu0 : ¬ (un : Int) = 0 := by omega
                have hu1 : ((un : Int) == 0) = false := by simp; omega
                have hkI : (k : Int) < (un : Int) := by omega
                obtain ⟨ux, us, rfl, hus, cu⟩ := str_at lu k hkl
                obtain ⟨s1, hs1⟩ : ∃ s1, X3[i]? = some s1 := ⟨_, List.getElem?_eq_getElem (by omega)⟩
                obtain ⟨z1, f1⟩ := K.own1 srOk rfl 0 rfl (k := i) hs1 (u := .string s1) rfl
                have K9 := (K.set1 srOk rfl 0 rfl (k := i) hlt us (u := .string us) rfl).1
                simp only [List.set] at K9
                clear hkd hu lu hus hs1 hq
                go_wp2_with fail
                go_meet
                exact ⟨X3.set i us, by rw [List.length_set]; exact hl3, K9⟩
              | false =>
                go_wp2_with fail
                go_meet
                exact ⟨X3, hl3, K⟩
            case rest =>
              clear K hl3 lu
              obtain ⟨X3, hl3, K⟩ := hcut
              obtain ⟨fa, fc, fe, lf⟩ := K.any srOk 0 rfl
              obtain ⟨rfl, -, rfl⟩ := Value.slice.inj fe
              clear fe
              go_wp2_with (first
                | (go_at_call 34; ((with_reducible refine (HG.out _ K.hb _ _ _ _ _ lf).mono ?_); rintro r9 w8 ⟨rfl, h9⟩; replace K := K.on h9; clear h9 lf)))
              go_roundw
              case rel => exact ⟨i + 1, X3, by go_num, by omega, hl3, K⟩
              case measure => simp [intOf]; omega
        · obtain rfl : i = 3 := by omega
          have hiI : ¬ ((3 : Nat) : Int) < 3 := by omega
          go_wp2_with (first
            | (go_at_call 31; ((with_reducible refine (HA.out _).mono ?_); rintro r9 w9 ⟨rfl, h9⟩; replace K := K.on h9; clear h9)))
          go_ret
          exact ⟨rfl, HBW.out.trans (K.hb.mono HBW.out.size)⟩
  · rw [decide_eq_false hn3] at HL
    go_enter Tryz.func9, Tryz.ntmps9
    go_wp2_with (first
      | (go_at_call 14; ((with_reducible refine (HL.out _).mono ?_); rintro r9 w9 ⟨rfl, rfl⟩))
      | (go_at_call 31; ((with_reducible refine (HA.out _).mono ?_); rintro r9 w9 ⟨rfl, h9⟩)))
    go_ret
    exact ⟨rfl, h9⟩
end Go.Proofs.YtnmhnjjehglcfaaGreat.Ents

/- DurableMade: what is allowed for histories of writes, trims and flushes is what the document's own says. No condition. -/
namespace Go.Proofs.YtnmhnjjehglcfaaGreat.durableMade
open Go.ChangeShapes Go.WideShapes Go.ChangeAt Go.RowKit
open Go.ChangeMaps (open_string shut_string)
set_option linter.unusedVariables false

theorem own : ownKnob Tryz.prog.godebug = none := by kernel_rfl
theorem laidOut : laidOutB Tryz.prog = true := by kernel_rfl

theorem walk (a0 : Option Addr) (l0 c0 : Nat) (z0 : List Int) (a1 : Int) (w1 : (Lit.int .u8 a1).wf = true) (a2 : Int) (w2 : (Lit.int .u8 a2).wf = true) (a3 : Int) (w3 : (Lit.int .u8 a3).wf = true) (w : World) (w0 : IsRow .i64 w a0 l0 c0 z0) :
    Calls Tryz.prog 9 #[.slice a0 l0 c0, .int .u8 a1, .int .u8 a2, .int .u8 a3] w fun e w' => e = .returned (.bool true) ∧ Below w.heap.size w w' := by
  exact Ents.durMadeLaw_any Ents.durableOk a1 a2 a3 (by have e1 : IntKind.u8.min = 0 := rfl; have e2 : IntKind.u8.max = 255 := rfl; simp only [Lit.wf, decide_eq_true_eq, Bool.and_eq_true] at w1; omega) (by have e1 : IntKind.u8.min = 0 := rfl; have e2 : IntKind.u8.max = 255 := rfl; simp only [Lit.wf, decide_eq_true_eq, Bool.and_eq_true] at w2; omega) (by have e1 : IntKind.u8.min = 0 := rfl; have e2 : IntKind.u8.max = 255 := rfl; simp only [Lit.wf, decide_eq_true_eq, Bool.and_eq_true] at w3; omega) a0 l0 c0 z0 w w0

set_option maxRecDepth 100000 in
theorem lifted (os : Os) (started : os.Started) (H : Type) (enc : TypeId × Value → H) :
    ReturnsInHanded {} Tryz.checked os 9 .any (Rows.durableMadeSpec.pre6 enc Tryz.prog Tryz.f9 Rows.durableMadeRow.domain false) (Rows.durableMadeSpec.post enc Tryz.prog Tryz.f9 false true false false) := by
  refine returnsInHanded_of_change (C := Tryz.checked) own started (by kernel_rfl) Tryz.func9
    (ChangeSpec.witness6 (enc := enc) (C := Tryz.checked) false ⟨#[], #[.slice none 0 0, .int .u8 0, .int .u8 0, .int .u8 0], []⟩ 8 (by kernel_rfl) (by kernel_rfl) (by kernel_rfl) (by kernel_rfl)) ?_
  intro W base args ds gs before hval0 hW hcnd _
  have hval : ∀ (j : Nat) t v, Tryz.f9.params[j]? = some t → args[j]? = some v → Value.okWide Tryz.prog W .any base t v := hval0
  have hW' := hW
  obtain ⟨p, q, hA0, hV, rfl, hfz, hnd⟩ := hW
  have hA : DataW.TrodAll enc Tryz.prog W 0 (fun _ => true) true Tryz.f9.params.toList args.toList ds p := hA0
  rw [Tryz.params9] at hA hval
  obtain ⟨v0, vs0, d0, ds0, p0, q0, hargs, rfl, rfl, h0, r0⟩ := trodAll_cons hA
  obtain ⟨v1, vs1, d1, ds1, p1, q1, rfl, rfl, rfl, h1, r1⟩ := trodAll_cons r0
  obtain ⟨v2, vs2, d2, ds2, p2, q2, rfl, rfl, rfl, h2, r2⟩ := trodAll_cons r1
  obtain ⟨v3, vs3, d3, ds3, p3, q3, rfl, rfl, rfl, h3, r3⟩ := trodAll_cons r2
  obtain ⟨rfl, rfl, rfl⟩ := trodAll_nil r3
  obtain rfl : args = #[v0, v1, v2, v3] := by cases args; simp_all
  obtain ⟨rfl, rfl⟩ := trodVars_none hV
  have k0' := h0
  have lt0 : ∀ x ∈ p0, x.block < W.heap.size := by obtain ⟨m, hm⟩ := h0; exact DataW.trod_lt m _ _ _ hm
  have k1' := h1
  have lt1 : ∀ x ∈ p1, x.block < W.heap.size := by obtain ⟨m, hm⟩ := h1; exact DataW.trod_lt m _ _ _ hm
  have k2' := h2
  have lt2 : ∀ x ∈ p2, x.block < W.heap.size := by obtain ⟨m, hm⟩ := h2; exact DataW.trod_lt m _ _ _ hm
  have k3' := h3
  have lt3 : ∀ x ∈ p3, x.block < W.heap.size := by obtain ⟨m, hm⟩ := h3; exact DataW.trod_lt m _ _ _ hm
  obtain ⟨a0, l0, c0, rfl⟩ := okWide_slice Tryz.underlying24 (hval 0 24 v0 rfl rfl)
  obtain ⟨z0, w0⟩ : ∃ zs, IsRow .i64 W a0 l0 c0 zs := by
    obtain ⟨fuel, hf⟩ := h0
    rcases open_ints Tryz.underlying24 Tryz.underlying3 (by kernel_rfl) hf with ⟨hcs, _⟩ | ⟨x, l, c, zs, hcs, _, hl, hm, hz, _, hcell, hwz⟩
    · simp [Value.cells] at hcs
      obtain ⟨rfl, rfl, rfl⟩ := hcs
      exact ⟨[], .inl ⟨rfl, rfl, rfl, rfl⟩⟩
    · simp [Value.cells] at hcs
      obtain ⟨rfl, rfl, rfl⟩ := hcs
      exact ⟨zs, .inr ⟨_, rfl, hl, hm, by simpa using hz, hcell, hwz⟩⟩
  obtain ⟨a1, rfl, _, _, w1⟩ := open_int Tryz.underlying5 (hval 1 5 v1 rfl rfl) h1
  obtain ⟨a2, rfl, _, _, w2⟩ := open_int Tryz.underlying5 (hval 2 5 v2 rfl rfl) h2
  obtain ⟨a3, rfl, _, _, w3⟩ := open_int Tryz.underlying5 (hval 3 5 v3 rfl rfl) h3
  clear hA0 hval0
  refine (walk a0 l0 c0 z0 a1 w1 a2 w2 a3 w3 W w0).mono fun e W' ⟨he, bel⟩ => ?_
  subst he
  exact ⟨_, rfl, _, _, _, [], _, [], hW', trodAll_mk1 (shut_bool Tryz.underlying4 _), (trodAll_cons_mk (Below.trod laidOut (by kernel_rfl) (of_decide_eq_true (by kernel_rfl)) k0' bel lt0) (trodAll_cons_mk (Below.trod laidOut (by kernel_rfl) (of_decide_eq_true (by kernel_rfl)) k1' bel lt1) (trodAll_cons_mk (Below.trod laidOut (by kernel_rfl) (of_decide_eq_true (by kernel_rfl)) k2' bel lt2) (trodAll_cons_mk (Below.trod laidOut (by kernel_rfl) (of_decide_eq_true (by kernel_rfl)) k3' bel lt3) trodAll_mk0)))), rfl, bel.frame _, fun h => by cases h⟩

theorem over : Rows.durableMadeRow.holds Tryz.pinned (OpenSpec.ofChange Rows.durableMadeSpec) :=
  OpenClaim.holds_of_wide 9 Tryz.f9 rfl rfl rfl rfl rfl rfl rfl ⟨rfl, rfl, rfl, rfl, rfl⟩ rfl rfl rfl rfl rfl (by kernel_rfl) Tryz.func9 (by kernel_rfl)
    (of_decide_eq_true (by kernel_rfl)) (by unfold Func.isWrapper; first | (rw [if_pos (by decide +kernel)]; kernel_rfl) | (rw [if_neg (by decide +kernel)]; exact ⟨rfl, rfl⟩))
    (fun os started H enc _ => lifted os started H enc)
end Go.Proofs.YtnmhnjjehglcfaaGreat.durableMade

namespace Go.Proofs.YtnmhnjjehglcfaaGreat
theorem durableMade_holds : Rows.DurableMadeSaid := durableMade.over
end Go.Proofs.YtnmhnjjehglcfaaGreat
