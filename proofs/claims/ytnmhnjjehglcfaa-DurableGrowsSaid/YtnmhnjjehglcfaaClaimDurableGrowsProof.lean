/- DurableGrows: a further write takes away nothing of what is allowed, as long as no flush follows. No condition. -/
import Derived.Test.YtnmhnjjehglcfaaPack28
import Derived.Test.YtnmhnjjehglcfaaRows
import Derived.WalkKit
import Derived.ProofKit
import Derived.SliceStrings
import Derived.OpenShut
import Derived.ShutString
import Derived.ChangeOld
import Derived.Carry
import Derived.Below

/- A list that is written out, as one of the walk's own. -/
namespace Go.Proofs.Ytnmhnjjehglcfaa.Env
open Go.RowKit Plan Ents Rws
section
variable {w W : World} {T : List Thing} {α : Type} {R : Row α}
theorem Env.lit (hR : R.Ok) (K : Env w W T) (L : List α) (n : Nat) (hl : L.length = n) (hn : n ≤ maxLen) : Env w (W.alloc (.cells (R.all L).toArray R.et)) (lst R (slv W.heap.size n n) n L :: T) :=
  K.cons ((Below.refl _ _).alloc (Nat.le_refl _) _) (show Thing.holds w.heap.size (W.alloc (.cells (R.all L).toArray R.et)) (lst R (slv W.heap.size n n) n L) from by
    have := World.ownsRow_lit (base := w.heap.size) (e := R.et) (size := R.sz) W (R.all L).toArray n K.hb.size hn (by rw [List.size_toArray, all_length hR, hl])
    exact this) (fun g hg => by obtain rfl := Option.some.inj hg; exact Nat.le_refl _)
end
end Go.Proofs.Ytnmhnjjehglcfaa.Env

/- The walk of the law DurableGrows. -/
namespace Go.Proofs.Ytnmhnjjehglcfaa.Ents
open Go.RowKit Plan HisMath LinMath DurMath ModMath CmdMath Rws Env LayMath
set_option maxHeartbeats 8000000 in
set_option maxRecDepth 20000 in
theorem durGrows_any (H : DurableOk) (xn xv : Int) (hn0 : 0 ≤ xn) (hn9 : xn ≤ 255) (hv0 : 0 ≤ xv) (hv9 : xv ≤ 255) (a : Option Addr) (n c : Nat) (Z : List Int) (w : World) (hz : IsRow .i64 w a n c Z) :
    Calls Try.prog 5 #[.slice a n c, .int .u8 xn, .int .u8 xv] w fun r w' => r = .returned (.bool true) ∧ Below w.heap.size w w' := by
  have HA := Lib.hid (fun W => durAwake_any H W)
  have HL := Lib.hid (fun W => light_any a n c W)
  by_cases hn3 : (n : Int) ≤ 300
  · rw [decide_eq_true hn3] at HL
    have HM := Lib.hid (durMade_any a n c Z w hz (by omega))
    unfold DMadePost at HM
    have HNZ := Lib.hid (fun W => refBNew_any 3 W)
    unfold SPost at HNZ
    obtain ⟨nn, rfl⟩ : ∃ k : Nat, xn = (k : Int) := ⟨xn.toNat, by omega⟩
    obtain ⟨nv, rfl⟩ : ∃ k : Nat, xv = (k : Int) := ⟨xv.toNat, by omega⟩
    obtain ⟨v, hv⟩ : ∃ v : ByteArray, v = ⟨(valueL nv).toArray⟩ := ⟨_, rfl⟩
    have HVA := Lib.hid (fun W => (show Calls Try.prog 13 #[.int .i64 (nv : Int)] W fun e w' => e = .returned (.string v) ∧ Below W.heap.size W w' from by rw [hv]; exact value_any nv (by omega) W))
    obtain ⟨bx, hbx⟩ : ∃ bx : Nat, nn % 3 = bx := ⟨_, rfl⟩
    have hb3 : bx < 3 := by omega
    have t1 : ((nn : Int) % 3) = (bx : Int) := by omega
    have t2 : ((nn : Int).tmod 3) = (bx : Int) := by rw [Int.tmod_eq_emod_of_nonneg (by omega)]; exact t1
    have t3 : IntKind.i64.wrap (bx : Int) = (bx : Int) := IntWalk.i64_in _ (by omega)
    have t4 : IntKind.i64.wrap (nv : Int) = (nv : Int) := IntWalk.i64_in _ (by omega)
    have K := Env.start w
    clear hz hn3 hv hbx hn0 hn9 hv0 hv9
    have HB3 := Lib.hid (show (newB 3).length = 3 from rfl)
    go_enter Try.func5, Try.ntmps5
    go_upto_region 6 with (first
      | (go_at_call 8; ((with_reducible refine (HL.out _).mono ?_); rintro r9 w9 ⟨rfl, rfl⟩))
      | (go_at_call 18; ((with_reducible refine (HM.out).mono ?_); rintro r9 w1 ⟨hv, X, rfl, ho, hb, hR, hx5, hxs⟩; replace K := (K.got hb ho).1; clear ho hb))
      | (go_at_call 10; ((with_reducible refine (HNZ.out _).mono ?_); rintro r9 w2 ⟨za, zn, zc, rfl, lz, hb⟩; have HW2 := K.hb.trans (hb.mono K.hb.size); replace K := K.on hb))
      | (go_at_call 13; ((with_reducible refine (HVA.out _).mono ?_); rintro r9 w3 ⟨rfl, h9⟩)))
    have lx := (K.any vrOk 0 rfl)
    obtain ⟨hxa, hxc, rfl, lx⟩ := lx
    obtain rfl : 3 = zn := lz.length
    have HBW := Lib.hid (HW2.trans (h9.mono HW2.size))
    replace lx := lx.same h9
    replace lz := lz.same h9
    clear K hb HW2 h9 HL HM HNZ HVA
    have hm5 : X.length ≤ 100000 := by omega
    have HAL := Lib.hid (fun W (h : Below w3.heap.size w3 W) G Y a2 m d (i : Int) (hy : VList W G a2 m d Y) (hm : m ≤ 100000) => H.allowed _ G (newB 3) Y i _ a2 3 zc m d W (lz.same h) hy (by decide) hm)
    unfold SPost at HAL
    have HRT := Lib.hid (fun W => (show Calls Try.prog 14 #[.agg #[.bool false, .int .i64 1, .int .i64 1000, .int .i64 2, .int .i64 (bx : Int), .string v, .int .i64 0, .string ⟨#[]⟩]] W fun r w' => r = .returned (.agg #[.bool true, .int .i64 1, .int .i64 1000, .int .i64 2, .int .i64 (bx : Int), .string v, .int .i64 0, .string ⟨#[]⟩]) ∧ Below W.heap.size W w' from durReturned_any (nwE false (bx : Int) v) W))
    have HGA := Lib.hid (fun i (hi : i < 3) => grow_all hR hx5 hxs (bx : Int) v hi)
    have HOWN := Lib.hid (show withinB [v] (allowE (newB 3) (X ++ [(nwE false (bx : Int) v)] ++ [(nwE true (bx : Int) v)]) (bx : Int)) = true from DurMath.within_iff.2 fun s hs => by rw [List.mem_singleton.1 hs]; exact grow_own hR hx5 hxs v hb3)
    clear lz hxs hR
    have K := (Env.start w3).al (.cells #[.bool false, .int .i64 1, .int .i64 1000, .int .i64 2, .int .i64 (bx : Int), .string v, .int .i64 0, .string ⟨#[]⟩] 41)
    obtain ⟨ge, hge⟩ : ∃ ge, w3.heap.size = ge := ⟨_, rfl⟩
    rw [hge] at K
    simp only [hge]
    generalize hw4 : w3.alloc (.cells #[.bool false, .int .i64 1, .int .i64 1000, .int .i64 2, .int .i64 (bx : Int), .string v, .int .i64 0, .string ⟨#[]⟩] 41) = w4 at *
    clear hge hw4
    go_cut [10] (fun s wx => ∃ mg mc, s = Env.slv mg (X.length + 1) mc ∧ Env w3 wx [Env.lst VR (Env.slv mg (X.length + 1) mc) (X.length + 1) (X ++ [(nwE false (bx : Int) v)]), .box ge (.cells #[.bool false, .int .i64 1, .int .i64 1000, .int .i64 2, .int .i64 (bx : Int), .string v, .int .i64 0, .string ⟨#[]⟩] 41)])
    case first =>
      refine LTree.start (fun W => W.heap[ge]? = some (.cells #[.bool false, .int .i64 1, .int .i64 1000, .int .i64 2, .int .i64 (bx : Int), .string v, .int .i64 0, .string ⟨#[]⟩] 41 (0, 0))) (.take 1 (.take 3 (.fork 0 (.fork 2 (.only 4 (.only 5 (.take 6 (.done)))) 4 (.only 2 (.only 5 (.take 6 (.done))))) 4 (.only 0 (.only 2 (.only 5 (.take 6 (.done)))))))) (by kernel_rfl) (by kernel_rfl) (by kernel_rfl) (by kernel_rfl) (K.drew.get 0 rfl) ?_
      simp only [Tree.T.map, List.getElem?_toArray, List.getElem?_cons_zero, List.getElem?_cons_succ]
      have K9 := K.drew
      clear K
      have K := K9
      clear K9
      generalize hv0 : World.drew w4 = v1 at *
      clear hv0
      repeat (first | (refine LTree.take ?_ (by rfl) ?_ ?_; rotate_left; (· rintro w9 u0; go_simp; (try rw [if_neg (by omega)]); all_goals (with_reducible rfl)); simp only [Act.put, List.setIfInBounds_toArray, List.set_cons_zero, List.set_cons_succ]))
      refine LTree.take_load 41 (.tmp 9) (ge) _ (by rfl) rfl (by rfl) (fun w9 h9 => h9) Try.underlying41 rfl ev_info ?_
      simp only [Act.put, List.setIfInBounds_toArray, List.set_cons_zero, List.set_cons_succ]
      refine LTree.fork (by rfl) (by rfl) ?_ ?_
      · skip
        have K9 : Env w3 (v1.alloc (.cells #[] 41)) (Env.lst VR (Env.slv v1.heap.size 0 0) 0 [] :: _) := K.empty VR
        refine (Tree.wp_make (.slice (some ⟨v1.heap.size, 0, none⟩) 0 0) (v1.alloc (.cells #[] 41)) ?_ ⟨(K9.get 1 rfl), ?_⟩)
        · go_simp
        simp only [Act.put, List.setIfInBounds_toArray, List.set_cons_zero, List.set_cons_succ]
        clear K
        have K := K9
        clear K9
        generalize v1.heap.size = gm at *
        generalize v1.alloc (.cells #[] 41) = v2 at *
        refine LTree.fork (by rfl) (by rfl) ?_ ?_
        · skip
          refine (K.app_list vrOk (.tmp 29) (.tmp 30) rfl 0 rfl rfl rfl (lx.same K.hb) (by rw [Nat.zero_add]; omega) ?_)
          intro gm cm v3 K9 _
          simp only [List.set, Nat.zero_add, List.nil_append] at K9
          refine ⟨(K9.get 1 rfl), ?_⟩
          simp only [Nat.zero_add, Act.put, List.setIfInBounds_toArray, List.set_cons_zero, List.set_cons_succ]
          clear K
          have K := K9
          clear K9
          have K9 := K.al (.cells #[.bool false, .int .i64 1, .int .i64 1000, .int .i64 2, .int .i64 (bx : Int), .string v, .int .i64 0, .string ⟨#[]⟩] 41 (0, 0))
          refine LTree.only (by rfl) (Tree.wp_make (.slice (some ⟨v3.heap.size, 0, none⟩) 1 1) (v3.alloc (.cells #[.bool false, .int .i64 1, .int .i64 1000, .int .i64 2, .int .i64 (bx : Int), .string v, .int .i64 0, .string ⟨#[]⟩] 41 (0, 0))) ?_ ⟨(K9.get 2 rfl), ?_⟩)
          · go_simp
          simp only [Act.put, List.setIfInBounds_toArray, List.set_cons_zero, List.set_cons_succ]
          clear K
          have K := K9
          clear K9
          generalize v3.heap.size = gy at *
          generalize v3.alloc (.cells #[.bool false, .int .i64 1, .int .i64 1000, .int .i64 2, .int .i64 (bx : Int), .string v, .int .i64 0, .string ⟨#[]⟩] 41 (0, 0)) = v4 at *
          refine LTree.only (by rfl) (K.app_one vrOk (.tmp 31) (.tmp 33) rfl 1 0 rfl rfl (e := (nwE false (bx : Int) v)) rfl rfl (by omega) ?_)
          intro gm cm v5 K9 _
          simp only [List.set] at K9
          refine ⟨(K9.get 2 rfl), ?_⟩
          simp only [Act.put, List.setIfInBounds_toArray, List.set_cons_zero, List.set_cons_succ]
          clear K
          have K := K9
          clear K9
          repeat (first | (refine LTree.take ?_ (by rfl) ?_ ?_; rotate_left; (· rintro w9 u0; go_simp; (try rw [if_neg (by omega)]); all_goals (with_reducible rfl)); simp only [Act.put, List.setIfInBounds_toArray, List.set_cons_zero, List.set_cons_succ]))
          refine LTree.ends ?_
          go_wp2_with fail
          go_meet
          exact ⟨_, _, rfl, K.sub (T' := [Env.lst VR (Env.slv gm (X.length + 1) cm) (X.length + 1) (X ++ [(nwE false (bx : Int) v)]), .box ge (.cells #[.bool false, .int .i64 1, .int .i64 1000, .int .i64 2, .int .i64 (bx : Int), .string v, .int .i64 0, .string ⟨#[]⟩] 41)]) [1, 2] rfl (by simp) (by simp)⟩
        · skip
          have K9 := K.al (.cells #[.bool false, .int .i64 1, .int .i64 1000, .int .i64 2, .int .i64 (bx : Int), .string v, .int .i64 0, .string ⟨#[]⟩] 41 (0, 0))
          refine (Tree.wp_make (.slice (some ⟨v2.heap.size, 0, none⟩) 1 1) (v2.alloc (.cells #[.bool false, .int .i64 1, .int .i64 1000, .int .i64 2, .int .i64 (bx : Int), .string v, .int .i64 0, .string ⟨#[]⟩] 41 (0, 0))) ?_ ⟨(K9.get 2 rfl), ?_⟩)
          · go_simp
          simp only [Act.put, List.setIfInBounds_toArray, List.set_cons_zero, List.set_cons_succ]
          clear K
          have K := K9
          clear K9
          generalize v2.heap.size = gy at *
          generalize v2.alloc (.cells #[.bool false, .int .i64 1, .int .i64 1000, .int .i64 2, .int .i64 (bx : Int), .string v, .int .i64 0, .string ⟨#[]⟩] 41 (0, 0)) = v3 at *
          refine LTree.only (by rfl) (K.app_list vrOk (.tmp 29) (.tmp 30) rfl 1 rfl rfl rfl (lx.same K.hb) (by rw [Nat.zero_add]; omega) ?_)
          intro gm cm v4 K9 _
          simp only [List.set, Nat.zero_add, List.nil_append] at K9
          refine ⟨(K9.get 2 rfl), ?_⟩
          simp only [Nat.zero_add, Act.put, List.setIfInBounds_toArray, List.set_cons_zero, List.set_cons_succ]
          clear K
          have K := K9
          clear K9
          refine LTree.only (by rfl) (K.app_one vrOk (.tmp 31) (.tmp 33) rfl 1 0 rfl rfl (e := (nwE false (bx : Int) v)) rfl rfl (by omega) ?_)
          intro gm cm v5 K9 _
          simp only [List.set] at K9
          refine ⟨(K9.get 2 rfl), ?_⟩
          simp only [Act.put, List.setIfInBounds_toArray, List.set_cons_zero, List.set_cons_succ]
          clear K
          have K := K9
          clear K9
          repeat (first | (refine LTree.take ?_ (by rfl) ?_ ?_; rotate_left; (· rintro w9 u0; go_simp; (try rw [if_neg (by omega)]); all_goals (with_reducible rfl)); simp only [Act.put, List.setIfInBounds_toArray, List.set_cons_zero, List.set_cons_succ]))
          refine LTree.ends ?_
          go_wp2_with fail
          go_meet
          exact ⟨_, _, rfl, K.sub (T' := [Env.lst VR (Env.slv gm (X.length + 1) cm) (X.length + 1) (X ++ [(nwE false (bx : Int) v)]), .box ge (.cells #[.bool false, .int .i64 1, .int .i64 1000, .int .i64 2, .int .i64 (bx : Int), .string v, .int .i64 0, .string ⟨#[]⟩] 41)]) [1, 2] rfl (by simp) (by simp)⟩
      · skip
        have K9 := K.al (.cells #[.bool false, .int .i64 1, .int .i64 1000, .int .i64 2, .int .i64 (bx : Int), .string v, .int .i64 0, .string ⟨#[]⟩] 41 (0, 0))
        refine (Tree.wp_make (.slice (some ⟨v1.heap.size, 0, none⟩) 1 1) (v1.alloc (.cells #[.bool false, .int .i64 1, .int .i64 1000, .int .i64 2, .int .i64 (bx : Int), .string v, .int .i64 0, .string ⟨#[]⟩] 41 (0, 0))) ?_ ⟨(K9.get 1 rfl), ?_⟩)
        · go_simp
        simp only [Act.put, List.setIfInBounds_toArray, List.set_cons_zero, List.set_cons_succ]
        clear K
        have K := K9
        clear K9
        generalize v1.heap.size = gy at *
        generalize v1.alloc (.cells #[.bool false, .int .i64 1, .int .i64 1000, .int .i64 2, .int .i64 (bx : Int), .string v, .int .i64 0, .string ⟨#[]⟩] 41 (0, 0)) = v2 at *
        have K9 : Env w3 (v2.alloc (.cells #[] 41)) (Env.lst VR (Env.slv v2.heap.size 0 0) 0 [] :: _) := K.empty VR
        refine LTree.only (by rfl) (Tree.wp_make (.slice (some ⟨v2.heap.size, 0, none⟩) 0 0) (v2.alloc (.cells #[] 41)) ?_ ⟨(K9.get 2 rfl), ?_⟩)
        · go_simp
        simp only [Act.put, List.setIfInBounds_toArray, List.set_cons_zero, List.set_cons_succ]
        clear K
        have K := K9
        clear K9
        generalize v2.heap.size = gm at *
        generalize v2.alloc (.cells #[] 41) = v3 at *
        refine LTree.only (by rfl) (K.app_list vrOk (.tmp 29) (.tmp 30) rfl 0 rfl rfl rfl (lx.same K.hb) (by rw [Nat.zero_add]; omega) ?_)
        intro gm cm v4 K9 _
        simp only [List.set, Nat.zero_add, List.nil_append] at K9
        refine ⟨(K9.get 2 rfl), ?_⟩
        simp only [Nat.zero_add, Act.put, List.setIfInBounds_toArray, List.set_cons_zero, List.set_cons_succ]
        clear K
        have K := K9
        clear K9
        refine LTree.only (by rfl) (K.app_one vrOk (.tmp 31) (.tmp 33) rfl 0 1 rfl rfl (e := (nwE false (bx : Int) v)) rfl rfl (by omega) ?_)
        intro gm cm v5 K9 _
        simp only [List.set] at K9
        refine ⟨(K9.get 2 rfl), ?_⟩
        simp only [Act.put, List.setIfInBounds_toArray, List.set_cons_zero, List.set_cons_succ]
        clear K
        have K := K9
        clear K9
        repeat (first | (refine LTree.take ?_ (by rfl) ?_ ?_; rotate_left; (· rintro w9 u0; go_simp; (try rw [if_neg (by omega)]); all_goals (with_reducible rfl)); simp only [Act.put, List.setIfInBounds_toArray, List.set_cons_zero, List.set_cons_succ]))
        refine LTree.ends ?_
        go_wp2_with fail
        go_meet
        exact ⟨_, _, rfl, K.sub (T' := [Env.lst VR (Env.slv gm (X.length + 1) cm) (X.length + 1) (X ++ [(nwE false (bx : Int) v)]), .box ge (.cells #[.bool false, .int .i64 1, .int .i64 1000, .int .i64 2, .int .i64 (bx : Int), .string v, .int .i64 0, .string ⟨#[]⟩] 41)]) [0, 2] rfl (by simp) (by simp)⟩
    case rest =>
      clear K
      obtain ⟨gm, cm, rfl, K⟩ := hcut
      go_upto_region 7 with fail
      go_cut [11] (fun s wx => ∃ dg dc, s = Env.slv dg (X.length + 1 + 1) dc ∧ Env w3 wx [Env.lst VR (Env.slv dg (X.length + 1 + 1) dc) (X.length + 1 + 1) (X ++ [(nwE false (bx : Int) v)] ++ [(nwE true (bx : Int) v)]), Env.lst VR (Env.slv gm (X.length + 1) cm) (X.length + 1) (X ++ [(nwE false (bx : Int) v)]), .box ge (.cells #[.bool false, .int .i64 1, .int .i64 1000, .int .i64 2, .int .i64 (bx : Int), .string v, .int .i64 0, .string ⟨#[]⟩] 41)])
      case first =>
        refine LTree.start (fun W => W.heap[ge]? = some (.cells #[.bool false, .int .i64 1, .int .i64 1000, .int .i64 2, .int .i64 (bx : Int), .string v, .int .i64 0, .string ⟨#[]⟩] 41 (0, 0))) (.take 1 (.take 3 (.only 0 (.only 2 (.only 4 (.only 5 (.only 6 (.take 7 (.done))))))))) (by kernel_rfl) (by kernel_rfl) (by kernel_rfl) (by kernel_rfl) (K.drew.get 1 rfl) ?_
        simp only [Tree.T.map, List.getElem?_toArray, List.getElem?_cons_zero, List.getElem?_cons_succ]
        have K9 := K.drew
        clear K
        have K := K9
        clear K9
        generalize hv0 : World.drew wc = v1 at *
        clear hv0
        repeat (first | (refine LTree.take ?_ (by rfl) ?_ ?_; rotate_left; (· rintro w9 u0; go_simp; (try rw [if_neg (by omega)]); all_goals (with_reducible rfl)); simp only [Act.put, List.setIfInBounds_toArray, List.set_cons_zero, List.set_cons_succ]))
        refine LTree.take_load 41 (.tmp 9) (ge) _ (by rfl) rfl (by rfl) (fun w9 h9 => h9) Try.underlying41 rfl ev_info ?_
        simp only [Act.put, List.setIfInBounds_toArray, List.set_cons_zero, List.set_cons_succ]
        have K9 : Env w3 (v1.alloc (.cells #[] 41)) (Env.lst VR (Env.slv v1.heap.size 0 0) 0 [] :: _) := K.empty VR
        refine LTree.only (by rfl) (Tree.wp_make (.slice (some ⟨v1.heap.size, 0, none⟩) 0 0) (v1.alloc (.cells #[] 41)) ?_ ⟨(K9.get 2 rfl), ?_⟩)
        · go_simp
        simp only [Act.put, List.setIfInBounds_toArray, List.set_cons_zero, List.set_cons_succ]
        clear K
        have K := K9
        clear K9
        generalize v1.heap.size = gd at *
        generalize v1.alloc (.cells #[] 41) = v2 at *
        refine LTree.only (by rfl) (K.app_list vrOk (.tmp 35) (.tmp 36) rfl 0 rfl rfl rfl (K.list vrOk 1 rfl) (by rw [Nat.zero_add]; omega) ?_)
        intro gd cd v3 K9 _
        simp only [List.set, Nat.zero_add, List.nil_append] at K9
        refine ⟨(K9.get 2 rfl), ?_⟩
        simp only [Nat.zero_add, Act.put, List.setIfInBounds_toArray, List.set_cons_zero, List.set_cons_succ]
        clear K
        have K := K9
        clear K9
        refine LTree.only (by rfl) (Tree.wp_call 14 _ ?_ (HRT.out _) ?_)
        · go_simp
        rintro r9 v4 ⟨rfl, h9⟩
        replace K := K.on h9
        clear h9
        refine ⟨_, rfl, (K.get 2 rfl), ?_⟩
        simp only [Act.put, List.setIfInBounds_toArray, List.set_cons_zero, List.set_cons_succ]
        have K9 := K.al (.cells #[.bool true, .int .i64 1, .int .i64 1000, .int .i64 2, .int .i64 (bx : Int), .string v, .int .i64 0, .string ⟨#[]⟩] 41 (0, 0))
        refine LTree.only (by rfl) (Tree.wp_make (.slice (some ⟨v4.heap.size, 0, none⟩) 1 1) (v4.alloc (.cells #[.bool true, .int .i64 1, .int .i64 1000, .int .i64 2, .int .i64 (bx : Int), .string v, .int .i64 0, .string ⟨#[]⟩] 41 (0, 0))) ?_ ⟨(K9.get 3 rfl), ?_⟩)
        · go_simp
        simp only [Act.put, List.setIfInBounds_toArray, List.set_cons_zero, List.set_cons_succ]
        clear K
        have K := K9
        clear K9
        generalize v4.heap.size = gy at *
        generalize v4.alloc (.cells #[.bool true, .int .i64 1, .int .i64 1000, .int .i64 2, .int .i64 (bx : Int), .string v, .int .i64 0, .string ⟨#[]⟩] 41 (0, 0)) = v5 at *
        refine LTree.only (by rfl) (K.app_one vrOk (.tmp 37) (.tmp 40) rfl 1 0 rfl rfl (e := (nwE true (bx : Int) v)) rfl rfl (by omega) ?_)
        intro gd cd v6 K9 _
        simp only [List.set] at K9
        refine ⟨(K9.get 3 rfl), ?_⟩
        simp only [Act.put, List.setIfInBounds_toArray, List.set_cons_zero, List.set_cons_succ]
        clear K
        have K := K9
        clear K9
        repeat (first | (refine LTree.take ?_ (by rfl) ?_ ?_; rotate_left; (· rintro w9 u0; go_simp; (try rw [if_neg (by omega)]); all_goals (with_reducible rfl)); simp only [Act.put, List.setIfInBounds_toArray, List.set_cons_zero, List.set_cons_succ]))
        refine LTree.ends ?_
        go_wp2_with fail
        go_meet
        exact ⟨_, _, rfl, K.sub (T' := [Env.lst VR (Env.slv gd (X.length + 1 + 1) cd) (X.length + 1 + 1) (X ++ [(nwE false (bx : Int) v)] ++ [(nwE true (bx : Int) v)]), Env.lst VR (Env.slv gm (X.length + 1) cm) (X.length + 1) (X ++ [(nwE false (bx : Int) v)]), .box ge (.cells #[.bool false, .int .i64 1, .int .i64 1000, .int .i64 2, .int .i64 (bx : Int), .string v, .int .i64 0, .string ⟨#[]⟩] 41)]) [1, 2, 3] rfl (by simp) (by simp)⟩
      case rest =>
        clear K
        obtain ⟨gd, cd, rfl, K⟩ := hcut
        go_wp2_with fail
        go_loopw [12] (fun x wr => ∃ i : Nat, x = .int .i64 (i : Int) ∧ i ≤ 3 ∧ Env w3 wr [Env.lst VR (Env.slv gd (X.length + 1 + 1) cd) (X.length + 1 + 1) (X ++ [(nwE false (bx : Int) v)] ++ [(nwE true (bx : Int) v)]), Env.lst VR (Env.slv gm (X.length + 1) cm) (X.length + 1) (X ++ [(nwE false (bx : Int) v)]), .box ge (.cells #[.bool false, .int .i64 1, .int .i64 1000, .int .i64 2, .int .i64 (bx : Int), .string v, .int .i64 0, .string ⟨#[]⟩] 41)]) (fun x _ => 3 - (intOf x).toNat)
        case atStart => exact ⟨0, rfl, by omega, K⟩
        case round =>
          clear K
          obtain ⟨i, rfl, hi, K⟩ := hrel
          by_cases hlt : i < 3
          · have hiI : (i : Int) < 3 := by omega
            obtain ⟨g0, g1, g2⟩ := HGA.out i hlt
            have HW1 := Lib.hid (DurMath.within_iff.2 g1)
            have HW2 := Lib.hid (DurMath.within_iff.2 g2)
            obtain ⟨ma, mc, me, lm⟩ := K.any vrOk 1 rfl
            obtain ⟨rfl, -, rfl⟩ := Value.slice.inj me
            obtain ⟨da, dc, de, ld⟩ := K.any vrOk 0 rfl
            obtain ⟨rfl, -, rfl⟩ := Value.slice.inj de
            clear me de g1 g2
            have lx9 := lx.same K.hb
            have p0 : X.length ≤ 100000 := by omega
            have p1 : X.length + 1 ≤ 100000 := by omega
            have p2 : X.length + 1 + 1 ≤ 100000 := by omega
            go_wp2_with (first
              | (go_at_call 15; ((with_reducible refine (HAL.out _ K.hb _ X _ _ _ (i : Int) lx9 p0).mono ?_); rintro r9 w8 ⟨ea, en, ec, rfl, le, h9⟩; replace K := K.on h9; replace lm := lm.same h9; replace ld := ld.same h9; have hen : 0 < en := (by have := le.length; omega); have hen1 : ((en : Int) == 0) = false := (by simp; omega); have hen2 : ¬ (en : Int) = 0 := (by omega); clear h9 lx9))
              | (go_at_call 15; ((with_reducible refine (HAL.out _ K.hb _ (X ++ [(nwE false (bx : Int) v)]) _ _ _ (i : Int) lm p1).mono ?_); rintro r9 w9 ⟨ea1, en1, ec1, rfl, le1, h9⟩; replace K := K.on h9; replace le := le.same h9; replace ld := ld.same h9; clear h9 lm))
              | (go_at_call 16; ((with_reducible refine (within_any _ _ _ _ _ _ _ _ _ _ _ le le1).mono ?_); rintro r9 w10 ⟨rfl, h9⟩; rw [HW1.out]; replace K := K.on h9; replace le := le.same h9; replace ld := ld.same h9; clear h9 le1))
              | (go_at_call 15; ((with_reducible refine (HAL.out _ K.hb _ (X ++ [(nwE false (bx : Int) v)] ++ [(nwE true (bx : Int) v)]) _ _ _ (i : Int) ld p2).mono ?_); rintro r9 w11 ⟨ea2, en2, ec2, rfl, le2, h9⟩; replace K := K.on h9; replace le := le.same h9; clear h9 ld))
              | (go_at_call 16; ((with_reducible refine (within_any _ _ _ _ _ _ _ _ _ _ _ le le2).mono ?_); rintro r9 w12 ⟨rfl, h9⟩; rw [HW2.out]; replace K := K.on h9; clear h9 le2)))
            go_roundw
            case rel => exact ⟨i + 1, by go_num, by omega, K⟩
            case measure => simp [intOf]; omega
          · obtain rfl : i = 3 := by omega
            have hiI : ¬ ((3 : Nat) : Int) < 3 := by omega
            go_upto_region 14 with fail
            clear hi hlt hiI HGA lx
            refine Tree.start (fun W => W.cell? ⟨ge, 5, none⟩ = some (.string v) ∧ W.cell? ⟨ge, 4, none⟩ = some (.int .i64 (bx : Int))) (.take 0 (.take 1 (.take 2 (.take 4 (.take 5 (.take 6 (.take 7 (.take 8 (.fork 3 (.only 9 (.only 10 (.take 11 (.only 12 (.take 13 (.take 14 (.done))))))) 9 (.only 3 (.only 10 (.take 11 (.only 12 (.take 13 (.take 14 (.done)))))))))))))))) (by kernel_rfl) (by kernel_rfl) (by kernel_rfl) (by kernel_rfl) ⟨(ev_cells (K.drew.get 2 rfl)).2.2.2.2.2.1, (ev_cells (K.drew.get 2 rfl)).2.2.2.2.1⟩ ?_
            simp only [Tree.T.map, List.getElem?_toArray, List.getElem?_cons_zero, List.getElem?_cons_succ]
            have K9 := K.drew
            clear K
            have K := K9
            clear K9
            generalize hv0 : World.drew wr = v1 at *
            clear hv0
            repeat (first | (refine Tree.take ?_ (by rfl) ?_ ?_; rotate_left; (· rintro w9 ⟨u0, u1⟩; go_simp; (try rw [if_neg (by omega)]); all_goals (with_reducible rfl)); simp only [Act.put, List.setIfInBounds_toArray, List.set_cons_zero, List.set_cons_succ]))
            refine Tree.fork (by rfl) (by rfl) ?_ ?_
            · skip
              have K9 := K.al (.cells #[.string v] 9 (0, 0))
              refine (Tree.wp_make (.slice (some ⟨v1.heap.size, 0, none⟩) 1 1) (v1.alloc (.cells #[.string v] 9 (0, 0))) ?_ ⟨⟨(ev_cells (K9.get 3 rfl)).2.2.2.2.2.1, (ev_cells (K9.get 3 rfl)).2.2.2.2.1⟩, ?_⟩)
              · go_simp
              simp only [Act.put, List.setIfInBounds_toArray, List.set_cons_zero, List.set_cons_succ]
              clear K
              have K := K9
              clear K9
              generalize v1.heap.size = gs at *
              generalize v1.alloc (.cells #[.string v] 9 (0, 0)) = v2 at *
              obtain ⟨da, dc, de, ld⟩ := K.any vrOk 1 rfl
              obtain ⟨rfl, -, rfl⟩ := Value.slice.inj de
              clear de
              refine Tree.only (by rfl) (Tree.wp_call 15 _ ?_ (HAL.out _ K.hb _ _ _ _ _ (bx : Int) ld (by omega)) ?_)
              · go_simp
              rintro r9 v3 ⟨ea, en, ec, rfl, le, h9⟩
              replace K := K.on h9
              clear h9 ld
              refine ⟨_, rfl, ⟨(ev_cells (K.get 3 rfl)).2.2.2.2.2.1, (ev_cells (K.get 3 rfl)).2.2.2.2.1⟩, ?_⟩
              simp only [Act.put, List.setIfInBounds_toArray, List.set_cons_zero, List.set_cons_succ]
              have ls := lit_list (R := SR) (L := [v]) (F := fun _ => True) (K.get 0 rfl) trivial (by show (1 : Nat) ≤ maxLen; unfold maxLen; decide)
              change SList _ _ _ 1 1 _ at ls
              refine Tree.only (by rfl) (Tree.wp_call 16 _ ?_ (within_any _ _ _ _ _ _ _ _ _ _ _ ls le) ?_)
              · go_simp
              rintro r9 v4 ⟨rfl, h9⟩
              replace K := K.on h9
              clear h9 ls le
              rw [HOWN.out]
              refine ⟨_, rfl, ⟨(ev_cells (K.get 3 rfl)).2.2.2.2.2.1, (ev_cells (K.get 3 rfl)).2.2.2.2.1⟩, ?_⟩
              simp only [Act.put, List.setIfInBounds_toArray, List.set_cons_zero, List.set_cons_succ]
              repeat (first | (refine Tree.take ?_ (by rfl) ?_ ?_; rotate_left; (· rintro w9 ⟨u0, u1⟩; go_simp; (try rw [if_neg (by omega)]); all_goals (with_reducible rfl)); simp only [Act.put, List.setIfInBounds_toArray, List.set_cons_zero, List.set_cons_succ]))
              refine Tree.only (by rfl) (Tree.wp_call 6 _ ?_ (HA.out _) ?_)
              · go_simp
              rintro r9 v5 ⟨rfl, h9⟩
              replace K := K.on h9
              clear h9
              refine ⟨_, rfl, ⟨(ev_cells (K.get 3 rfl)).2.2.2.2.2.1, (ev_cells (K.get 3 rfl)).2.2.2.2.1⟩, ?_⟩
              simp only [Act.put, List.setIfInBounds_toArray, List.set_cons_zero, List.set_cons_succ]
              repeat (first | (refine Tree.take ?_ (by rfl) ?_ ?_; rotate_left; (· rintro w9 ⟨u0, u1⟩; go_simp; (try rw [if_neg (by omega)]); all_goals (with_reducible rfl)); simp only [Act.put, List.setIfInBounds_toArray, List.set_cons_zero, List.set_cons_succ]))
              refine Tree.ends ?_
              go_wp2_with fail
              go_ret
              exact ⟨rfl, HBW.out.trans (K.hb.mono HBW.out.size)⟩
            · skip
              obtain ⟨da, dc, de, ld⟩ := K.any vrOk 0 rfl
              obtain ⟨rfl, -, rfl⟩ := Value.slice.inj de
              clear de
              refine (Tree.wp_call 15 _ ?_ (HAL.out _ K.hb _ _ _ _ _ (bx : Int) ld (by omega)) ?_)
              · go_simp
              rintro r9 v2 ⟨ea, en, ec, rfl, le, h9⟩
              replace K := K.on h9
              clear h9 ld
              refine ⟨_, rfl, ⟨(ev_cells (K.get 2 rfl)).2.2.2.2.2.1, (ev_cells (K.get 2 rfl)).2.2.2.2.1⟩, ?_⟩
              simp only [Act.put, List.setIfInBounds_toArray, List.set_cons_zero, List.set_cons_succ]
              replace le := le.same ((Below.refl _ _).alloc (Nat.le_refl _) (.cells #[.string v] 9))
              have K9 := K.al (.cells #[.string v] 9 (0, 0))
              refine Tree.only (by rfl) (Tree.wp_make (.slice (some ⟨v2.heap.size, 0, none⟩) 1 1) (v2.alloc (.cells #[.string v] 9 (0, 0))) ?_ ⟨⟨(ev_cells (K9.get 3 rfl)).2.2.2.2.2.1, (ev_cells (K9.get 3 rfl)).2.2.2.2.1⟩, ?_⟩)
              · go_simp
              simp only [Act.put, List.setIfInBounds_toArray, List.set_cons_zero, List.set_cons_succ]
              clear K
              have K := K9
              clear K9
              generalize v2.heap.size = gs at *
              generalize v2.alloc (.cells #[.string v] 9 (0, 0)) = v3 at *
              have ls := lit_list (R := SR) (L := [v]) (F := fun _ => True) (K.get 0 rfl) trivial (by show (1 : Nat) ≤ maxLen; unfold maxLen; decide)
              change SList _ _ _ 1 1 _ at ls
              refine Tree.only (by rfl) (Tree.wp_call 16 _ ?_ (within_any _ _ _ _ _ _ _ _ _ _ _ ls le) ?_)
              · go_simp
              rintro r9 v4 ⟨rfl, h9⟩
              replace K := K.on h9
              clear h9 ls le
              rw [HOWN.out]
              refine ⟨_, rfl, ⟨(ev_cells (K.get 3 rfl)).2.2.2.2.2.1, (ev_cells (K.get 3 rfl)).2.2.2.2.1⟩, ?_⟩
              simp only [Act.put, List.setIfInBounds_toArray, List.set_cons_zero, List.set_cons_succ]
              repeat (first | (refine Tree.take ?_ (by rfl) ?_ ?_; rotate_left; (· rintro w9 ⟨u0, u1⟩; go_simp; (try rw [if_neg (by omega)]); all_goals (with_reducible rfl)); simp only [Act.put, List.setIfInBounds_toArray, List.set_cons_zero, List.set_cons_succ]))
              refine Tree.only (by rfl) (Tree.wp_call 6 _ ?_ (HA.out _) ?_)
              · go_simp
              rintro r9 v5 ⟨rfl, h9⟩
              replace K := K.on h9
              clear h9
              refine ⟨_, rfl, ⟨(ev_cells (K.get 3 rfl)).2.2.2.2.2.1, (ev_cells (K.get 3 rfl)).2.2.2.2.1⟩, ?_⟩
              simp only [Act.put, List.setIfInBounds_toArray, List.set_cons_zero, List.set_cons_succ]
              repeat (first | (refine Tree.take ?_ (by rfl) ?_ ?_; rotate_left; (· rintro w9 ⟨u0, u1⟩; go_simp; (try rw [if_neg (by omega)]); all_goals (with_reducible rfl)); simp only [Act.put, List.setIfInBounds_toArray, List.set_cons_zero, List.set_cons_succ]))
              refine Tree.ends ?_
              go_wp2_with fail
              go_ret
              exact ⟨rfl, HBW.out.trans (K.hb.mono HBW.out.size)⟩
  · rw [decide_eq_false hn3] at HL
    go_enter Try.func5, Try.ntmps5
    go_wp2_with (first
      | (go_at_call 8; ((with_reducible refine (HL.out _).mono ?_); rintro r9 w9 ⟨rfl, rfl⟩))
      | (go_at_call 6; ((with_reducible refine (HA.out _).mono ?_); rintro r9 w9 ⟨rfl, h9⟩)))
    go_ret
    exact ⟨rfl, h9⟩
end Go.Proofs.Ytnmhnjjehglcfaa.Ents

/- DurableGrows: a further write takes away nothing of what is allowed, as long as no flush follows. No condition. -/
namespace Go.Proofs.Ytnmhnjjehglcfaa.durableGrows
open Go.ChangeShapes Go.WideShapes Go.ChangeAt Go.RowKit
open Go.ChangeMaps (open_string shut_string)
set_option linter.unusedVariables false

theorem own : ownKnob Try.prog.godebug = none := by kernel_rfl
theorem laidOut : laidOutB Try.prog = true := by kernel_rfl

theorem walk (a0 : Option Addr) (l0 c0 : Nat) (z0 : List Int) (a1 : Int) (w1 : (Lit.int .u8 a1).wf = true) (a2 : Int) (w2 : (Lit.int .u8 a2).wf = true) (w : World) (w0 : IsRow .i64 w a0 l0 c0 z0) :
    Calls Try.prog 5 #[.slice a0 l0 c0, .int .u8 a1, .int .u8 a2] w fun e w' => e = .returned (.bool true) ∧ Below w.heap.size w w' := by
  exact Ents.durGrows_any Ents.durableOk a1 a2 (by have e1 : IntKind.u8.min = 0 := rfl; have e2 : IntKind.u8.max = 255 := rfl; simp only [Lit.wf, decide_eq_true_eq, Bool.and_eq_true] at w1; omega) (by have e1 : IntKind.u8.min = 0 := rfl; have e2 : IntKind.u8.max = 255 := rfl; simp only [Lit.wf, decide_eq_true_eq, Bool.and_eq_true] at w1; omega) (by have e1 : IntKind.u8.min = 0 := rfl; have e2 : IntKind.u8.max = 255 := rfl; simp only [Lit.wf, decide_eq_true_eq, Bool.and_eq_true] at w2; omega) (by have e1 : IntKind.u8.min = 0 := rfl; have e2 : IntKind.u8.max = 255 := rfl; simp only [Lit.wf, decide_eq_true_eq, Bool.and_eq_true] at w2; omega) a0 l0 c0 z0 w w0

set_option maxRecDepth 100000 in
theorem lifted (os : Os) (started : os.Started) (H : Type) (enc : TypeId × Value → H) :
    ReturnsInHanded {} Try.checked os 5 .any (Rows.durableGrowsSpec.pre6 enc Try.prog Try.f5 Rows.durableGrowsRow.domain false) (Rows.durableGrowsSpec.post enc Try.prog Try.f5 false true false false) := by
  refine returnsInHanded_of_change (C := Try.checked) own started (by kernel_rfl) Try.func5
    (ChangeSpec.witness6 (enc := enc) (C := Try.checked) false ⟨#[], #[.slice none 0 0, .int .u8 0, .int .u8 0], []⟩ 8 (by kernel_rfl) (by kernel_rfl) (by kernel_rfl) (by kernel_rfl)) ?_
  intro W base args ds gs before hval0 hW hcnd _
  have hval : ∀ (j : Nat) t v, Try.f5.params[j]? = some t → args[j]? = some v → Value.okWide Try.prog W .any base t v := hval0
  have hW' := hW
  obtain ⟨p, q, hA0, hV, rfl, hfz, hnd⟩ := hW
  have hA : DataW.TrodAll enc Try.prog W 0 (fun _ => true) true Try.f5.params.toList args.toList ds p := hA0
  rw [Try.params5] at hA hval
  obtain ⟨v0, vs0, d0, ds0, p0, q0, hargs, rfl, rfl, h0, r0⟩ := trodAll_cons hA
  obtain ⟨v1, vs1, d1, ds1, p1, q1, rfl, rfl, rfl, h1, r1⟩ := trodAll_cons r0
  obtain ⟨v2, vs2, d2, ds2, p2, q2, rfl, rfl, rfl, h2, r2⟩ := trodAll_cons r1
  obtain ⟨rfl, rfl, rfl⟩ := trodAll_nil r2
  obtain rfl : args = #[v0, v1, v2] := by cases args; simp_all
  obtain ⟨rfl, rfl⟩ := trodVars_none hV
  have k0' := h0
  have lt0 : ∀ x ∈ p0, x.block < W.heap.size := by obtain ⟨m, hm⟩ := h0; exact DataW.trod_lt m _ _ _ hm
  have k1' := h1
  have lt1 : ∀ x ∈ p1, x.block < W.heap.size := by obtain ⟨m, hm⟩ := h1; exact DataW.trod_lt m _ _ _ hm
  have k2' := h2
  have lt2 : ∀ x ∈ p2, x.block < W.heap.size := by obtain ⟨m, hm⟩ := h2; exact DataW.trod_lt m _ _ _ hm
  obtain ⟨a0, l0, c0, rfl⟩ := okWide_slice Try.underlying26 (hval 0 26 v0 rfl rfl)
  obtain ⟨z0, w0⟩ : ∃ zs, IsRow .i64 W a0 l0 c0 zs := by
    obtain ⟨fuel, hf⟩ := h0
    rcases open_ints Try.underlying26 Try.underlying3 (by kernel_rfl) hf with ⟨hcs, _⟩ | ⟨x, l, c, zs, hcs, _, hl, hm, hz, _, hcell, hwz⟩
    · simp [Value.cells] at hcs
      obtain ⟨rfl, rfl, rfl⟩ := hcs
      exact ⟨[], .inl ⟨rfl, rfl, rfl, rfl⟩⟩
    · simp [Value.cells] at hcs
      obtain ⟨rfl, rfl, rfl⟩ := hcs
      exact ⟨zs, .inr ⟨_, rfl, hl, hm, by simpa using hz, hcell, hwz⟩⟩
  obtain ⟨a1, rfl, _, _, w1⟩ := open_int Try.underlying5 (hval 1 5 v1 rfl rfl) h1
  obtain ⟨a2, rfl, _, _, w2⟩ := open_int Try.underlying5 (hval 2 5 v2 rfl rfl) h2
  clear hA0 hval0
  refine (walk a0 l0 c0 z0 a1 w1 a2 w2 W w0).mono fun e W' ⟨he, bel⟩ => ?_
  subst he
  exact ⟨_, rfl, _, _, _, [], _, [], hW', trodAll_mk1 (shut_bool Try.underlying4 _), (trodAll_cons_mk (Below.trod laidOut (by kernel_rfl) (of_decide_eq_true (by kernel_rfl)) k0' bel lt0) (trodAll_cons_mk (Below.trod laidOut (by kernel_rfl) (of_decide_eq_true (by kernel_rfl)) k1' bel lt1) (trodAll_cons_mk (Below.trod laidOut (by kernel_rfl) (of_decide_eq_true (by kernel_rfl)) k2' bel lt2) trodAll_mk0))), rfl, bel.frame _, fun h => by cases h⟩

theorem over : Rows.durableGrowsRow.holds Try.pinned (OpenSpec.ofChange Rows.durableGrowsSpec) :=
  OpenClaim.holds_of_wide 5 Try.f5 rfl rfl rfl rfl rfl rfl rfl ⟨rfl, rfl, rfl, rfl, rfl⟩ rfl rfl rfl rfl rfl (by kernel_rfl) Try.func5 (by kernel_rfl)
    (of_decide_eq_true (by kernel_rfl)) (by unfold Func.isWrapper; first | (rw [if_pos (by decide +kernel)]; kernel_rfl) | (rw [if_neg (by decide +kernel)]; exact ⟨rfl, rfl⟩))
    (fun os started H enc _ => lifted os started H enc)
end Go.Proofs.Ytnmhnjjehglcfaa.durableGrows

namespace Go.Proofs.Ytnmhnjjehglcfaa
theorem durableGrows_holds : Rows.DurableGrowsSaid := durableGrows.over
end Go.Proofs.Ytnmhnjjehglcfaa
