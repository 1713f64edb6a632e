/- Texts that belong together, part 19. -/
import Derived.Test.YtjdlekjikemdpaaPack18

/- The walk of the document's Valid of pools. -/
namespace Go.Proofs.Ytjdlekjikemdpaa.Ents
open Go.RowKit Plan EntMath CntMath PoolMath LayMath
theorem lanes_info : (Try.prog.info? 62).map (·.size) = some 2 := by kernel_rfl
/-- where a walk with a box of a pool and one of a configuration stands -/
structure PBox (w W : World) (XP XC : Obj) : Prop where
  hp : W.heap[w.heap.size]? = some XP
  hc : W.heap[w.heap.size + 1]? = some XC
  hb : Below w.heap.size w W
theorem PBox.start (w : World) (XP XC : Obj) : PBox w ((w.alloc XP).alloc XC) XP XC := ⟨heap_first w _ _, heap_second w _ _, ((Below.refl w.heap.size w).alloc (Nat.le_refl _) XP).alloc (by simp) XC⟩
theorem PBox.on {w W W' : World} {XP XC : Obj} (K : PBox w W XP XC) (h : Below W.heap.size W W') : PBox w W' XP XC := ⟨e_on h K.hp (e_lt K.hp), e_on h K.hc (e_lt K.hc), K.hb.trans (h.mono K.hb.size)⟩
theorem PBox.al {w W : World} {XP XC : Obj} (K : PBox w W XP XC) (p : Obj) : PBox w (W.alloc p) XP XC := K.on ((Below.refl _ _).alloc (Nat.le_refl _) p)
theorem PBox.drew {w W : World} {XP XC : Obj} (K : PBox w W XP XC) : PBox w W.drew XP XC := K.on (Below.refl _ _).drew
theorem PBox.lt {w W : World} {XP XC : Obj} (K : PBox w W XP XC) : w.heap.size + 1 < W.heap.size := e_lt K.hc
theorem PBox.row {w W : World} {XP XC : Obj} (K : PBox w W XP XC) {g : Nat} (hg : w.heap.size + 1 < g) (cs : Array Value) : PBox w (W.setRow g cs) XP XC :=
  ⟨(setRow_other _ _ _ _ (by omega)).trans K.hp, (setRow_other _ _ _ _ (by omega)).trans K.hc, below_setRow K.hb (show w.heap.size ≤ g by omega) _⟩
set_option maxHeartbeats 8000000 in
set_option maxRecDepth 20000 in
theorem refPValid_any (F : Nat → Prop) (P : Po) (cz cs cb cq cd ch : Int) (a : Option Addr) (n c : Nat) (h k : Int) (w : World) (hl : FList w F a n c h k P) :
    Calls Try.prog 24 #[poV a n c h k, confV cz cs cb cq cd ch] w fun r w' => r = .returned (.bool (validP (decide (errN cz cs cb cq cd ch = 0)) (isN cz cs cb cq cd ch) P)) ∧ Below w.heap.size w w' := by
  obtain ⟨L, h0, k0⟩ := P
  obtain ⟨e1, e2, hf⟩ := hl
  simp only at e1 e2 hf
  subst e1 e2
  have hlen := hf.length
  have K := PBox.start w (poRow a n c h0 k0) (confRow cz cs cb cq cd ch)
  have H1 := Lib.hid (fun W (h : Below w.heap.size w W) i (hi : i < n) => (hf.same h).at' i hi)
  have HHAS := Lib.hid (fun (z : Int) W (h : Below w.heap.size w W) => refPHas_any _ L z a n c W (hf.same h))
  have HCK := Lib.hid (layRefCheck_any cz cs cb cq cd ch)
  have HDC := Lib.hid (refIsData_any cz cs cb cq cd ch)
  have hcp0 := hf.cap
  unfold maxLen at hcp0
  unfold confV at *
  have hVE := @po_no (decide (errN cz cs cb cq cd ch = 0)) (isN cz cs cb cq cd ch) ⟨L, h0, k0⟩
  have hVF := fun j (hj : j < n) (hs : stepOk (isN cz cs cb cq cd ch) L j = false) => @po_free (decide (errN cz cs cb cq cd ch = 0)) (isN cz cs cb cq cd ch) ⟨L, h0, k0⟩ (free_bad (by rw [hlen]; exact hj) hs)
  have hL1 := @po_lane1 (decide (errN cz cs cb cq cd ch = 0)) (isN cz cs cb cq cd ch) ⟨L, h0, k0⟩
  have hL2 := @po_lane2 (decide (errN cz cs cb cq cd ch = 0)) (isN cz cs cb cq cd ch) ⟨L, h0, k0⟩
  have hAL := @po_all (decide (errN cz cs cb cq cd ch = 0)) (isN cz cs cb cq cd ch) ⟨L, h0, k0⟩
  simp only [hlen] at hVE hVF hL1 hL2 hAL
  generalize validP (decide (errN cz cs cb cq cd ch = 0)) (isN cz cs cb cq cd ch) ⟨L, h0, k0⟩ = R at *
  generalize isN cz cs cb cq cd ch = D at *
  generalize errN cz cs cb cq cd ch = E at *
  have HVE := Lib.hid hVE
  have HVF := Lib.hid hVF
  have HL1 := Lib.hid hL1
  have HL2 := Lib.hid hL2
  have HAL := Lib.hid hAL
  clear hVE hVF hL1 hL2 hAL hf
  generalize h0 = h at *
  generalize k0 = k at *
  go_enter Try.func24, Try.ntmps24
  generalize hw0 : (w.alloc (poRow a n c h k)).alloc (confRow cz cs cb cq cd ch) = w0 at *
  by_cases hE : E = 0
  · have t0 : (E != 0) = false := by simp [hE]
    have HE := Lib.hid (decide_eq_true hE)
    clear hE
    go_wp2_with (first
      | ((with_reducible refine Plan.load_lit 26 (.tmp 3) (w.heap.size + 1) ?_ K.hc Try.underlying26 ?_ ?_ ?_); (· rfl); (· rfl); (· exact conf_info); simp only [Act.put, List.setIfInBounds_toArray, List.set_cons_zero, List.set_cons_succ])
      | (go_at_call 28; ((with_reducible refine (HCK.out _).mono ?_); rintro r9 w1 ⟨rfl, h1⟩; have K1 := K.on h1; clear K hw0 h1; have K := K1; clear K1)))
    obtain ⟨v0, v1, v2⟩ := three_row K.hp
    go_loopw [5] (fun x wr => ∃ j : Nat, x = .int .i64 (j : Int) ∧ j ≤ n ∧ RowKit.Hid (freeOk D L j = true) ∧ PBox w wr (poRow a n c h k) (confRow cz cs cb cq cd ch)) (fun x _ => n - (intOf x).toNat)
    case atStart => exact ⟨0, rfl, by omega, Lib.hid free_zero, K⟩
    case round =>
      clear v0 v1 v2 K
      obtain ⟨j, rfl, hj, hfr, K⟩ := hrel
      obtain ⟨v0, v1, v2⟩ := three_row K.hp
      by_cases hlt : j < n
      · obtain ⟨x, y, rfl, hz, hc⟩ := H1.out wr K.hb j hlt
        have hjI : (j : Int) < (n : Int) := by omega
        have HCC := Lib.hid (fun W (h : Below w.heap.size w W) => (show W.cell? (x.add j) = some (.int .i64 y) from by obtain ⟨x', r', e1, e2, e3⟩ := H1.out W h j hlt; obtain rfl := Option.some.inj e1; rw [hz] at e2; obtain rfl := Option.some.inj e2; exact e3))
        have HDYi := HDC.out y
        rcases Nat.eq_zero_or_pos j with h0 | h0
        · have hst : stepOk D L j = D y := by
            subst h0
            exact step_zero hz
          have d1 : decide ((0 : Int) < (j : Int)) = false := by simp; omega
          have d2 : decide (0 < j) = false := by simp; omega
          clear h0
          cases hd : D y
          · have hR := Lib.hid (HVF.out j hlt (by rw [hst, hd]))
            rw [hd] at HDYi
            have HDY := Lib.hid HDYi
            clear HDYi hst hz
            go_wp2_with fail
            refine Plan.start (fun W => (W.cell? ⟨w.heap.size, 0, none⟩ = some (.slice (some x) n c) ∧ W.cell? ⟨w.heap.size, 1, none⟩ = some (.int .i64 h) ∧ W.cell? ⟨w.heap.size, 2, none⟩ = some (.int .i64 k)) ∧ W.heap[w.heap.size + 1]? = some (confRow cz cs cb cq cd ch) ∧ W.cell? (x.add j) = some (.int .i64 y)) [(0, true), (1, true), (2, true), (3, true), (4, true), (5, true), (6, false), (7, true), (8, true), (9, true), (10, true), (11, true), (12, true), (13, true), (14, true), (15, true), (16, true), (17, true), (18, true), (19, true), (20, true), (21, true), (22, true), (23, true), (24, true), (25, true)] (by kernel_rfl) (by kernel_rfl) (by kernel_rfl) (by kernel_rfl) ⟨three_row K.hp, K.hc, hc⟩ ?_
            simp only [List.map_cons, List.map_nil, List.getElem?_toArray, List.getElem?_cons_zero, List.getElem?_cons_succ]
            refine Plan.take_load 26 (.tmp 3) (w.heap.size + 1) _ (by rfl) rfl (by rfl) (fun w9 h9 => h9.2.1) Try.underlying26 rfl conf_info ?_
            simp only [Act.put, List.setIfInBounds_toArray, List.set_cons_zero, List.set_cons_succ]
            repeat (first | (refine Plan.take ?_ (by rfl) ?_ ?_; rotate_left; (· rintro w9 ⟨⟨u0, u1, u2⟩, u3, u4⟩; go_simp; (try rw [if_neg (by omega)]); all_goals (with_reducible rfl)); simp only [Act.put, List.setIfInBounds_toArray, List.set_cons_zero, List.set_cons_succ]) | (refine Plan.pass (by rfl) ?_; simp only [Act.put, List.setIfInBounds_toArray, List.set_cons_zero, List.set_cons_succ]))
            refine Plan.call (by rfl) 26 _ ?_ (HDY.out _) ?_
            · go_simp
            rintro r9 w2 ⟨rfl, h2⟩
            have K2 := K.drew.on h2
            refine ⟨_, rfl, ⟨three_row K2.hp, K2.hc, HCC.out w2 K2.hb⟩, ?_⟩
            simp only [Act.put, List.setIfInBounds_toArray, List.set_cons_zero, List.set_cons_succ]
            repeat (first | (refine Plan.take ?_ (by rfl) ?_ ?_; rotate_left; (· rintro w9 ⟨⟨u0, u1, u2⟩, u3, u4⟩; go_simp; (try rw [if_neg (by omega)]); all_goals (with_reducible rfl)); simp only [Act.put, List.setIfInBounds_toArray, List.set_cons_zero, List.set_cons_succ]) | (refine Plan.pass (by rfl) ?_; simp only [Act.put, List.setIfInBounds_toArray, List.set_cons_zero, List.set_cons_succ]))
            refine Plan.ends ?_
            clear hc K
            go_wp2_with fail
            go_ret
            exact ⟨i_b hR.out.symm, K2.hb⟩
          · have HN := Lib.hid (show freeOk D L (j + 1) = true from by rw [free_next, hfr.out, hst, hd]; rfl)
            rw [hd] at HDYi
            have HDY := Lib.hid HDYi
            clear HDYi hst hz
            go_wp2_with fail
            refine Plan.start (fun W => (W.cell? ⟨w.heap.size, 0, none⟩ = some (.slice (some x) n c) ∧ W.cell? ⟨w.heap.size, 1, none⟩ = some (.int .i64 h) ∧ W.cell? ⟨w.heap.size, 2, none⟩ = some (.int .i64 k)) ∧ W.heap[w.heap.size + 1]? = some (confRow cz cs cb cq cd ch) ∧ W.cell? (x.add j) = some (.int .i64 y)) [(0, true), (1, true), (2, true), (3, true), (4, true), (5, true), (6, false), (7, true), (8, true), (9, true), (10, true), (11, true), (12, true), (13, true), (14, true), (15, true), (16, true), (17, true), (18, true), (19, true), (20, true), (21, true), (22, true), (23, true), (24, true), (25, true)] (by kernel_rfl) (by kernel_rfl) (by kernel_rfl) (by kernel_rfl) ⟨three_row K.hp, K.hc, hc⟩ ?_
            simp only [List.map_cons, List.map_nil, List.getElem?_toArray, List.getElem?_cons_zero, List.getElem?_cons_succ]
            refine Plan.take_load 26 (.tmp 3) (w.heap.size + 1) _ (by rfl) rfl (by rfl) (fun w9 h9 => h9.2.1) Try.underlying26 rfl conf_info ?_
            simp only [Act.put, List.setIfInBounds_toArray, List.set_cons_zero, List.set_cons_succ]
            repeat (first | (refine Plan.take ?_ (by rfl) ?_ ?_; rotate_left; (· rintro w9 ⟨⟨u0, u1, u2⟩, u3, u4⟩; go_simp; (try rw [if_neg (by omega)]); all_goals (with_reducible rfl)); simp only [Act.put, List.setIfInBounds_toArray, List.set_cons_zero, List.set_cons_succ]) | (refine Plan.pass (by rfl) ?_; simp only [Act.put, List.setIfInBounds_toArray, List.set_cons_zero, List.set_cons_succ]))
            refine Plan.call (by rfl) 26 _ ?_ (HDY.out _) ?_
            · go_simp
            rintro r9 w2 ⟨rfl, h2⟩
            have K2 := K.drew.on h2
            refine ⟨_, rfl, ⟨three_row K2.hp, K2.hc, HCC.out w2 K2.hb⟩, ?_⟩
            simp only [Act.put, List.setIfInBounds_toArray, List.set_cons_zero, List.set_cons_succ]
            repeat (first | (refine Plan.take ?_ (by rfl) ?_ ?_; rotate_left; (· rintro w9 ⟨⟨u0, u1, u2⟩, u3, u4⟩; go_simp; (try rw [if_neg (by omega)]); all_goals (with_reducible rfl)); simp only [Act.put, List.setIfInBounds_toArray, List.set_cons_zero, List.set_cons_succ]) | (refine Plan.pass (by rfl) ?_; simp only [Act.put, List.setIfInBounds_toArray, List.set_cons_zero, List.set_cons_succ]))
            refine Plan.ends ?_
            clear hc K
            go_wp2_with fail
            go_roundw
            case rel => exact ⟨j + 1, by go_num, by omega, HN, K2⟩
            case measure => simp [intOf]; omega
        · obtain ⟨p, rfl⟩ : ∃ p, j = p + 1 := ⟨j - 1, by omega⟩
          obtain ⟨x', yp, hx', hzp, hcp⟩ := H1.out wr K.hb p (by omega)
          obtain rfl := Option.some.inj hx'
          have HPC := Lib.hid (fun W (h : Below w.heap.size w W) => (show W.cell? (x.add p) = some (.int .i64 yp) from by obtain ⟨x', r', e1, e2, e3⟩ := H1.out W h p (by omega); obtain rfl := Option.some.inj e1; rw [hzp] at e2; obtain rfl := Option.some.inj e2; exact e3))
          have hst := @step_next D L p yp y hzp hz
          have hpw : IntKind.i64.wrap (((p + 1 : Nat) : Int) - 1) = (p : Int) := by rw [IntWalk.i64_in _ (by omega)]; omega
          have hpI : (p : Int) < (n : Int) := by omega
          clear hx' h0 hz hzp
          generalize hjp : p + 1 = j at *
          have d1 : decide ((0 : Int) < (j : Int)) = true := by simp; omega
          have d2 : decide (0 < j) = true := by simp; omega
          have hj0 : (0 : Int) < (j : Int) := by omega
          cases hd : D y
          · have hR := Lib.hid (HVF.out j hlt (by rw [hst, hd]; rfl))
            rw [hd] at HDYi
            have HDY := Lib.hid HDYi
            clear HDYi hst
            go_wp2_with fail
            refine Plan.start (fun W => (W.cell? ⟨w.heap.size, 0, none⟩ = some (.slice (some x) n c) ∧ W.cell? ⟨w.heap.size, 1, none⟩ = some (.int .i64 h) ∧ W.cell? ⟨w.heap.size, 2, none⟩ = some (.int .i64 k)) ∧ W.heap[w.heap.size + 1]? = some (confRow cz cs cb cq cd ch) ∧ W.cell? (x.add j) = some (.int .i64 y) ∧ W.cell? (x.add p) = some (.int .i64 yp)) [(0, true), (1, true), (2, true), (3, true), (4, true), (5, true), (6, false), (7, true), (8, true), (9, true), (10, true), (11, true), (12, true), (13, true), (14, true), (15, true), (16, true), (17, true), (18, true), (19, true), (20, true), (21, true), (22, true), (23, true), (24, true), (25, true)] (by kernel_rfl) (by kernel_rfl) (by kernel_rfl) (by kernel_rfl) ⟨three_row K.hp, K.hc, hc, hcp⟩ ?_
            simp only [List.map_cons, List.map_nil, List.getElem?_toArray, List.getElem?_cons_zero, List.getElem?_cons_succ]
            refine Plan.take_load 26 (.tmp 3) (w.heap.size + 1) _ (by rfl) rfl (by rfl) (fun w9 h9 => h9.2.1) Try.underlying26 rfl conf_info ?_
            simp only [Act.put, List.setIfInBounds_toArray, List.set_cons_zero, List.set_cons_succ]
            repeat (first | (refine Plan.take ?_ (by rfl) ?_ ?_; rotate_left; (· rintro w9 ⟨⟨u0, u1, u2⟩, u3, u4, u5⟩; go_simp; (try rw [if_neg (by omega)]); all_goals (with_reducible rfl)); simp only [Act.put, List.setIfInBounds_toArray, List.set_cons_zero, List.set_cons_succ]) | (refine Plan.pass (by rfl) ?_; simp only [Act.put, List.setIfInBounds_toArray, List.set_cons_zero, List.set_cons_succ]))
            refine Plan.call (by rfl) 26 _ ?_ (HDY.out _) ?_
            · go_simp
            rintro r9 w2 ⟨rfl, h2⟩
            have K2 := K.drew.on h2
            refine ⟨_, rfl, ⟨three_row K2.hp, K2.hc, HCC.out w2 K2.hb, HPC.out w2 K2.hb⟩, ?_⟩
            simp only [Act.put, List.setIfInBounds_toArray, List.set_cons_zero, List.set_cons_succ]
            repeat (first | (refine Plan.take ?_ (by rfl) ?_ ?_; rotate_left; (· rintro w9 ⟨⟨u0, u1, u2⟩, u3, u4, u5⟩; go_simp; (try rw [if_neg (by omega)]); all_goals (with_reducible rfl)); simp only [Act.put, List.setIfInBounds_toArray, List.set_cons_zero, List.set_cons_succ]) | (refine Plan.pass (by rfl) ?_; simp only [Act.put, List.setIfInBounds_toArray, List.set_cons_zero, List.set_cons_succ]))
            refine Plan.ends ?_
            clear hc K hcp
            go_wp2_with fail
            go_ret
            exact ⟨i_b hR.out.symm, K2.hb⟩
          · rw [hd] at HDYi hst
            have HDY := Lib.hid HDYi
            clear HDYi
            by_cases hq : y ≤ yp
            · have d3 : decide (y ≤ yp) = true := by simpa using hq
              have hR := Lib.hid (HVF.out j hlt (by rw [hst, decide_eq_false (show ¬ yp < y by omega)]; rfl))
              clear hst
              go_wp2_with fail
              refine Plan.start (fun W => (W.cell? ⟨w.heap.size, 0, none⟩ = some (.slice (some x) n c) ∧ W.cell? ⟨w.heap.size, 1, none⟩ = some (.int .i64 h) ∧ W.cell? ⟨w.heap.size, 2, none⟩ = some (.int .i64 k)) ∧ W.heap[w.heap.size + 1]? = some (confRow cz cs cb cq cd ch) ∧ W.cell? (x.add j) = some (.int .i64 y) ∧ W.cell? (x.add p) = some (.int .i64 yp)) [(0, true), (1, true), (2, true), (3, true), (4, true), (5, true), (6, false), (7, true), (8, true), (9, true), (10, true), (11, true), (12, true), (13, true), (14, true), (15, true), (16, true), (17, true), (18, true), (19, true), (20, true), (21, true), (22, true), (23, true), (24, true), (25, true)] (by kernel_rfl) (by kernel_rfl) (by kernel_rfl) (by kernel_rfl) ⟨three_row K.hp, K.hc, hc, hcp⟩ ?_
              simp only [List.map_cons, List.map_nil, List.getElem?_toArray, List.getElem?_cons_zero, List.getElem?_cons_succ]
              refine Plan.take_load 26 (.tmp 3) (w.heap.size + 1) _ (by rfl) rfl (by rfl) (fun w9 h9 => h9.2.1) Try.underlying26 rfl conf_info ?_
              simp only [Act.put, List.setIfInBounds_toArray, List.set_cons_zero, List.set_cons_succ]
              repeat (first | (refine Plan.take ?_ (by rfl) ?_ ?_; rotate_left; (· rintro w9 ⟨⟨u0, u1, u2⟩, u3, u4, u5⟩; go_simp; (try rw [if_neg (by omega)]); all_goals (with_reducible rfl)); simp only [Act.put, List.setIfInBounds_toArray, List.set_cons_zero, List.set_cons_succ]) | (refine Plan.pass (by rfl) ?_; simp only [Act.put, List.setIfInBounds_toArray, List.set_cons_zero, List.set_cons_succ]))
              refine Plan.call (by rfl) 26 _ ?_ (HDY.out _) ?_
              · go_simp
              rintro r9 w2 ⟨rfl, h2⟩
              have K2 := K.drew.on h2
              refine ⟨_, rfl, ⟨three_row K2.hp, K2.hc, HCC.out w2 K2.hb, HPC.out w2 K2.hb⟩, ?_⟩
              simp only [Act.put, List.setIfInBounds_toArray, List.set_cons_zero, List.set_cons_succ]
              repeat (first | (refine Plan.take ?_ (by rfl) ?_ ?_; rotate_left; (· rintro w9 ⟨⟨u0, u1, u2⟩, u3, u4, u5⟩; go_simp; (try rw [if_neg (by omega)]); all_goals (with_reducible rfl)); simp only [Act.put, List.setIfInBounds_toArray, List.set_cons_zero, List.set_cons_succ]) | (refine Plan.pass (by rfl) ?_; simp only [Act.put, List.setIfInBounds_toArray, List.set_cons_zero, List.set_cons_succ]))
              refine Plan.ends ?_
              clear hc K hcp
              go_wp2_with fail
              go_ret
              exact ⟨i_b hR.out.symm, K2.hb⟩
            · have d3 : decide (y ≤ yp) = false := by simpa using hq
              have HN := Lib.hid (show freeOk D L (j + 1) = true from by rw [free_next, hfr.out, hst, decide_eq_true (show yp < y by omega)]; rfl)
              clear hst
              go_wp2_with fail
              refine Plan.start (fun W => (W.cell? ⟨w.heap.size, 0, none⟩ = some (.slice (some x) n c) ∧ W.cell? ⟨w.heap.size, 1, none⟩ = some (.int .i64 h) ∧ W.cell? ⟨w.heap.size, 2, none⟩ = some (.int .i64 k)) ∧ W.heap[w.heap.size + 1]? = some (confRow cz cs cb cq cd ch) ∧ W.cell? (x.add j) = some (.int .i64 y) ∧ W.cell? (x.add p) = some (.int .i64 yp)) [(0, true), (1, true), (2, true), (3, true), (4, true), (5, true), (6, false), (7, true), (8, true), (9, true), (10, true), (11, true), (12, true), (13, true), (14, true), (15, true), (16, true), (17, true), (18, true), (19, true), (20, true), (21, true), (22, true), (23, true), (24, true), (25, true)] (by kernel_rfl) (by kernel_rfl) (by kernel_rfl) (by kernel_rfl) ⟨three_row K.hp, K.hc, hc, hcp⟩ ?_
              simp only [List.map_cons, List.map_nil, List.getElem?_toArray, List.getElem?_cons_zero, List.getElem?_cons_succ]
              refine Plan.take_load 26 (.tmp 3) (w.heap.size + 1) _ (by rfl) rfl (by rfl) (fun w9 h9 => h9.2.1) Try.underlying26 rfl conf_info ?_
              simp only [Act.put, List.setIfInBounds_toArray, List.set_cons_zero, List.set_cons_succ]
              repeat (first | (refine Plan.take ?_ (by rfl) ?_ ?_; rotate_left; (· rintro w9 ⟨⟨u0, u1, u2⟩, u3, u4, u5⟩; go_simp; (try rw [if_neg (by omega)]); all_goals (with_reducible rfl)); simp only [Act.put, List.setIfInBounds_toArray, List.set_cons_zero, List.set_cons_succ]) | (refine Plan.pass (by rfl) ?_; simp only [Act.put, List.setIfInBounds_toArray, List.set_cons_zero, List.set_cons_succ]))
              refine Plan.call (by rfl) 26 _ ?_ (HDY.out _) ?_
              · go_simp
              rintro r9 w2 ⟨rfl, h2⟩
              have K2 := K.drew.on h2
              refine ⟨_, rfl, ⟨three_row K2.hp, K2.hc, HCC.out w2 K2.hb, HPC.out w2 K2.hb⟩, ?_⟩
              simp only [Act.put, List.setIfInBounds_toArray, List.set_cons_zero, List.set_cons_succ]
              repeat (first | (refine Plan.take ?_ (by rfl) ?_ ?_; rotate_left; (· rintro w9 ⟨⟨u0, u1, u2⟩, u3, u4, u5⟩; go_simp; (try rw [if_neg (by omega)]); all_goals (with_reducible rfl)); simp only [Act.put, List.setIfInBounds_toArray, List.set_cons_zero, List.set_cons_succ]) | (refine Plan.pass (by rfl) ?_; simp only [Act.put, List.setIfInBounds_toArray, List.set_cons_zero, List.set_cons_succ]))
              refine Plan.ends ?_
              clear hc K hcp
              go_wp2_with fail
              go_roundw
              case rel => exact ⟨j + 1, by go_num, by omega, HN, K2⟩
              case measure => simp [intOf]; omega
      · obtain rfl : j = n := by omega
        have hjI : ¬ (j : Int) < (j : Int) := by omega
        go_wp2_with (first
          | ((with_reducible refine Plan.store_lit 62 (.tmp 6) _ wr.heap.size ?_ (heap_alloc_new wr _) ?_ ?_ ?_ ?_ ?_ ?_); rotate_left; (· rfl); (· rfl); (· exact lanes_info); (· rfl); (· simp [Value.oneCell']); simp only [Act.put]))
        have hK9 := K.lt
        have hg := setRow_heap _ _ _ #[.int .i64 h, .int .i64 k] _ _ (heap_alloc_new wr (.cells #[.int .i64 0, .int .i64 0] 62))
        have K1 := (K.al (.cells #[.int .i64 0, .int .i64 0] 62)).row hK9 #[.int .i64 h, .int .i64 k]
        clear K v0 v1 v2
        have K := K1
        clear K1
        generalize (wr.alloc (.cells #[.int .i64 0, .int .i64 0] 62)).setRow wr.heap.size #[.int .i64 h, .int .i64 k] = w5 at *
        generalize wr.heap.size = g at *
        go_loopw [7] (fun x wr => ∃ i : Nat, x = .int .i64 (i : Int) ∧ i ≤ 2 ∧ RowKit.Hid ((1 ≤ i → laneOk D L h = true) ∧ (2 ≤ i → laneOk D L k = true)) ∧ PBox w wr (poRow a j c h k) (confRow cz cs cb cq cd ch) ∧ wr.heap[g]? = some (.cells #[.int .i64 h, .int .i64 k] 62)) (fun x _ => 2 - (intOf x).toNat)
        case atStart => exact ⟨0, rfl, by omega, Lib.hid ⟨fun h => absurd h (by omega), fun h => absurd h (by omega)⟩, K, hg⟩
        case round =>
          clear K hg
          obtain ⟨i, rfl, hi, hla, K, hg⟩ := hrel
          rcases (show i = 0 ∨ i = 1 ∨ i = 2 by omega) with rfl | rfl | rfl
          · skip
            by_cases q1 : h = -1
            · have HOK := Lib.hid (show laneOk D L h = true from by rw [q1]; exact lane_none)
              have t1 : (h == (-1 : Int)) = true := by simpa using q1
              have t9 : (h != (-1 : Int)) = false := by simpa using q1
              have hgd : wr.drew.heap[g]? = _ := hg
              go_wp2_with fail
              refine Plan.start (fun W => (W.cell? ⟨w.heap.size, 0, none⟩ = some (.slice a j c) ∧ W.cell? ⟨w.heap.size, 1, none⟩ = some (.int .i64 h) ∧ W.cell? ⟨w.heap.size, 2, none⟩ = some (.int .i64 k)) ∧ W.heap[w.heap.size + 1]? = some (confRow cz cs cb cq cd ch) ∧ W.heap[g]? = some (.cells #[.int .i64 h, .int .i64 k] 62) ∧ W.cell? ⟨g, 0, none⟩ = some (.int .i64 h) ∧ W.cell? ⟨g, 1, none⟩ = some (.int .i64 k)) [(0, true), (1, true), (2, true), (3, true), (4, true), (5, true), (6, true), (7, true), (8, true), (9, false), (10, true), (11, true), (12, true), (13, true), (14, true), (15, true), (16, true), (17, false), (18, true), (19, true)] (by kernel_rfl) (by kernel_rfl) (by kernel_rfl) (by kernel_rfl) ⟨three_row K.hp, K.hc, hg, two_row hg⟩ ?_
              simp only [List.map_cons, List.map_nil, List.getElem?_toArray, List.getElem?_cons_zero, List.getElem?_cons_succ]
              repeat (first | (refine Plan.take ?_ (by rfl) ?_ ?_; rotate_left; (· rintro w9 ⟨⟨u0, u1, u2⟩, u3, u4, u5, u6⟩; go_simp; (try rw [if_neg (by omega)]); all_goals (with_reducible rfl)); simp only [Act.put, List.setIfInBounds_toArray, List.set_cons_zero, List.set_cons_succ]) | (refine Plan.pass (by rfl) ?_; simp only [Act.put, List.setIfInBounds_toArray, List.set_cons_zero, List.set_cons_succ]))
              refine Plan.pass' (by rfl) ⟨three_row K.drew.hp, K.drew.hc, hgd, two_row hgd⟩ ?_
              simp only [Act.put, List.setIfInBounds_toArray, List.set_cons_zero, List.set_cons_succ]
              repeat (first | (refine Plan.take ?_ (by rfl) ?_ ?_; rotate_left; (· rintro w9 ⟨⟨u0, u1, u2⟩, u3, u4, u5, u6⟩; go_simp; (try rw [if_neg (by omega)]); all_goals (with_reducible rfl)); simp only [Act.put, List.setIfInBounds_toArray, List.set_cons_zero, List.set_cons_succ]) | (refine Plan.pass (by rfl) ?_; simp only [Act.put, List.setIfInBounds_toArray, List.set_cons_zero, List.set_cons_succ]))
              refine Plan.pass' (by rfl) ⟨three_row K.drew.hp, K.drew.hc, hgd, two_row hgd⟩ ?_
              simp only [Act.put, List.setIfInBounds_toArray, List.set_cons_zero, List.set_cons_succ]
              repeat (first | (refine Plan.take ?_ (by rfl) ?_ ?_; rotate_left; (· rintro w9 ⟨⟨u0, u1, u2⟩, u3, u4, u5, u6⟩; go_simp; (try rw [if_neg (by omega)]); all_goals (with_reducible rfl)); simp only [Act.put, List.setIfInBounds_toArray, List.set_cons_zero, List.set_cons_succ]) | (refine Plan.pass (by rfl) ?_; simp only [Act.put, List.setIfInBounds_toArray, List.set_cons_zero, List.set_cons_succ]))
              refine Plan.ends ?_
              have K2 := K.drew
              clear K hg
              go_wp2_with fail
              go_roundw
              case rel => exact ⟨1, by go_num, by omega, Lib.hid ⟨fun _ => HOK.out, fun h => absurd h (by omega)⟩, K2, hgd⟩
              case measure => simp [intOf]
            · have t1 : (h == (-1 : Int)) = false := by simpa using q1
              have t9 : (h != (-1 : Int)) = true := by simpa using q1
              have HDYi := HDC.out h
              cases hd : D h
              · have hR := Lib.hid (HL1.out (lane_bad q1 hd))
                rw [hd] at HDYi
                have HDY := Lib.hid HDYi
                clear HDYi
                go_wp2_with fail
                refine Plan.start (fun W => (W.cell? ⟨w.heap.size, 0, none⟩ = some (.slice a j c) ∧ W.cell? ⟨w.heap.size, 1, none⟩ = some (.int .i64 h) ∧ W.cell? ⟨w.heap.size, 2, none⟩ = some (.int .i64 k)) ∧ W.heap[w.heap.size + 1]? = some (confRow cz cs cb cq cd ch) ∧ W.heap[g]? = some (.cells #[.int .i64 h, .int .i64 k] 62) ∧ W.cell? ⟨g, 0, none⟩ = some (.int .i64 h) ∧ W.cell? ⟨g, 1, none⟩ = some (.int .i64 k)) [(0, true), (1, true), (2, true), (3, true), (4, true), (5, true), (6, true), (7, true), (8, true), (9, false), (10, true), (11, true), (12, true), (13, true), (14, true), (15, true), (16, true), (17, false), (18, true), (19, true)] (by kernel_rfl) (by kernel_rfl) (by kernel_rfl) (by kernel_rfl) ⟨three_row K.hp, K.hc, hg, two_row hg⟩ ?_
                simp only [List.map_cons, List.map_nil, List.getElem?_toArray, List.getElem?_cons_zero, List.getElem?_cons_succ]
                repeat (first | (refine Plan.take_load 26 (.tmp 3) (w.heap.size + 1) _ (by rfl) rfl (by rfl) (fun w9 h9 => h9.2.1) Try.underlying26 rfl conf_info ?_; simp only [Act.put, List.setIfInBounds_toArray, List.set_cons_zero, List.set_cons_succ]) | (refine Plan.take ?_ (by rfl) ?_ ?_; rotate_left; (· rintro w9 ⟨⟨u0, u1, u2⟩, u3, u4, u5, u6⟩; go_simp; (try rw [if_neg (by omega)]); all_goals (with_reducible rfl)); simp only [Act.put, List.setIfInBounds_toArray, List.set_cons_zero, List.set_cons_succ]) | (refine Plan.pass (by rfl) ?_; simp only [Act.put, List.setIfInBounds_toArray, List.set_cons_zero, List.set_cons_succ]))
                refine Plan.call (by rfl) 26 _ ?_ (HDY.out _) ?_
                · go_simp
                rintro r9 w2 ⟨rfl, h2⟩
                have K2 := K.drew.on h2
                have hg2 := e_on h2 (show wr.drew.heap[g]? = _ from hg) (e_lt hg)
                refine ⟨_, rfl, ⟨three_row K2.hp, K2.hc, hg2, two_row hg2⟩, ?_⟩
                simp only [Act.put, List.setIfInBounds_toArray, List.set_cons_zero, List.set_cons_succ]
                repeat (first | (refine Plan.take ?_ (by rfl) ?_ ?_; rotate_left; (· rintro w9 ⟨⟨u0, u1, u2⟩, u3, u4, u5, u6⟩; go_simp; (try rw [if_neg (by omega)]); all_goals (with_reducible rfl)); simp only [Act.put, List.setIfInBounds_toArray, List.set_cons_zero, List.set_cons_succ]) | (refine Plan.pass (by rfl) ?_; simp only [Act.put, List.setIfInBounds_toArray, List.set_cons_zero, List.set_cons_succ]))
                refine Plan.pass' (by rfl) ⟨three_row K2.hp, K2.hc, hg2, two_row hg2⟩ ?_
                simp only [Act.put, List.setIfInBounds_toArray, List.set_cons_zero, List.set_cons_succ]
                repeat (first | (refine Plan.take ?_ (by rfl) ?_ ?_; rotate_left; (· rintro w9 ⟨⟨u0, u1, u2⟩, u3, u4, u5, u6⟩; go_simp; (try rw [if_neg (by omega)]); all_goals (with_reducible rfl)); simp only [Act.put, List.setIfInBounds_toArray, List.set_cons_zero, List.set_cons_succ]) | (refine Plan.pass (by rfl) ?_; simp only [Act.put, List.setIfInBounds_toArray, List.set_cons_zero, List.set_cons_succ]))
                refine Plan.ends ?_
                clear K hg
                go_wp2_with fail
                go_ret
                exact ⟨i_b hR.out.symm, K2.hb⟩
              · rw [hd] at HDYi
                have HDY := Lib.hid HDYi
                clear HDYi
                have HHi := HHAS.out h
                cases hh : hasL L h
                · have HOK := Lib.hid (lane_ok (D := D) (L := L) (x := h) hd hh)
                  rw [hh] at HHi
                  have HH := Lib.hid HHi
                  clear HHi
                  go_wp2_with fail
                  refine Plan.start (fun W => (W.cell? ⟨w.heap.size, 0, none⟩ = some (.slice a j c) ∧ W.cell? ⟨w.heap.size, 1, none⟩ = some (.int .i64 h) ∧ W.cell? ⟨w.heap.size, 2, none⟩ = some (.int .i64 k)) ∧ W.heap[w.heap.size + 1]? = some (confRow cz cs cb cq cd ch) ∧ W.heap[g]? = some (.cells #[.int .i64 h, .int .i64 k] 62) ∧ W.cell? ⟨g, 0, none⟩ = some (.int .i64 h) ∧ W.cell? ⟨g, 1, none⟩ = some (.int .i64 k)) [(0, true), (1, true), (2, true), (3, true), (4, true), (5, true), (6, true), (7, true), (8, true), (9, false), (10, true), (11, true), (12, true), (13, true), (14, true), (15, true), (16, true), (17, false), (18, true), (19, true)] (by kernel_rfl) (by kernel_rfl) (by kernel_rfl) (by kernel_rfl) ⟨three_row K.hp, K.hc, hg, two_row hg⟩ ?_
                  simp only [List.map_cons, List.map_nil, List.getElem?_toArray, List.getElem?_cons_zero, List.getElem?_cons_succ]
                  repeat (first | (refine Plan.take_load 26 (.tmp 3) (w.heap.size + 1) _ (by rfl) rfl (by rfl) (fun w9 h9 => h9.2.1) Try.underlying26 rfl conf_info ?_; simp only [Act.put, List.setIfInBounds_toArray, List.set_cons_zero, List.set_cons_succ]) | (refine Plan.take ?_ (by rfl) ?_ ?_; rotate_left; (· rintro w9 ⟨⟨u0, u1, u2⟩, u3, u4, u5, u6⟩; go_simp; (try rw [if_neg (by omega)]); all_goals (with_reducible rfl)); simp only [Act.put, List.setIfInBounds_toArray, List.set_cons_zero, List.set_cons_succ]) | (refine Plan.pass (by rfl) ?_; simp only [Act.put, List.setIfInBounds_toArray, List.set_cons_zero, List.set_cons_succ]))
                  refine Plan.call (by rfl) 26 _ ?_ (HDY.out _) ?_
                  · go_simp
                  rintro r9 w2 ⟨rfl, h2⟩
                  have K2 := K.drew.on h2
                  have hg2 := e_on h2 (show wr.drew.heap[g]? = _ from hg) (e_lt hg)
                  refine ⟨_, rfl, ⟨three_row K2.hp, K2.hc, hg2, two_row hg2⟩, ?_⟩
                  simp only [Act.put, List.setIfInBounds_toArray, List.set_cons_zero, List.set_cons_succ]
                  repeat (first | (refine Plan.take ?_ (by rfl) ?_ ?_; rotate_left; (· rintro w9 ⟨⟨u0, u1, u2⟩, u3, u4, u5, u6⟩; go_simp; (try rw [if_neg (by omega)]); all_goals (with_reducible rfl)); simp only [Act.put, List.setIfInBounds_toArray, List.set_cons_zero, List.set_cons_succ]) | (refine Plan.pass (by rfl) ?_; simp only [Act.put, List.setIfInBounds_toArray, List.set_cons_zero, List.set_cons_succ]))
                  refine Plan.call (by rfl) 27 _ ?_ (HH.out w2 K2.hb) ?_
                  · go_simp
                  rintro r9 w3 ⟨rfl, h3⟩
                  have K3 := K2.on h3
                  have hg3 := e_on h3 hg2 (e_lt hg2)
                  refine ⟨_, rfl, ⟨three_row K3.hp, K3.hc, hg3, two_row hg3⟩, ?_⟩
                  simp only [Act.put, List.setIfInBounds_toArray, List.set_cons_zero, List.set_cons_succ]
                  repeat (first | (refine Plan.take ?_ (by rfl) ?_ ?_; rotate_left; (· rintro w9 ⟨⟨u0, u1, u2⟩, u3, u4, u5, u6⟩; go_simp; (try rw [if_neg (by omega)]); all_goals (with_reducible rfl)); simp only [Act.put, List.setIfInBounds_toArray, List.set_cons_zero, List.set_cons_succ]) | (refine Plan.pass (by rfl) ?_; simp only [Act.put, List.setIfInBounds_toArray, List.set_cons_zero, List.set_cons_succ]))
                  refine Plan.ends ?_
                  clear K hg K2 hg2
                  go_wp2_with fail
                  go_roundw
                  case rel => exact ⟨1, by go_num, by omega, Lib.hid ⟨fun _ => HOK.out, fun h => absurd h (by omega)⟩, K3, hg3⟩
                  case measure => simp [intOf]
                · have hR := Lib.hid (HL1.out (lane_in q1 hh))
                  rw [hh] at HHi
                  have HH := Lib.hid HHi
                  clear HHi
                  go_wp2_with fail
                  refine Plan.start (fun W => (W.cell? ⟨w.heap.size, 0, none⟩ = some (.slice a j c) ∧ W.cell? ⟨w.heap.size, 1, none⟩ = some (.int .i64 h) ∧ W.cell? ⟨w.heap.size, 2, none⟩ = some (.int .i64 k)) ∧ W.heap[w.heap.size + 1]? = some (confRow cz cs cb cq cd ch) ∧ W.heap[g]? = some (.cells #[.int .i64 h, .int .i64 k] 62) ∧ W.cell? ⟨g, 0, none⟩ = some (.int .i64 h) ∧ W.cell? ⟨g, 1, none⟩ = some (.int .i64 k)) [(0, true), (1, true), (2, true), (3, true), (4, true), (5, true), (6, true), (7, true), (8, true), (9, false), (10, true), (11, true), (12, true), (13, true), (14, true), (15, true), (16, true), (17, false), (18, true), (19, true)] (by kernel_rfl) (by kernel_rfl) (by kernel_rfl) (by kernel_rfl) ⟨three_row K.hp, K.hc, hg, two_row hg⟩ ?_
                  simp only [List.map_cons, List.map_nil, List.getElem?_toArray, List.getElem?_cons_zero, List.getElem?_cons_succ]
                  repeat (first | (refine Plan.take_load 26 (.tmp 3) (w.heap.size + 1) _ (by rfl) rfl (by rfl) (fun w9 h9 => h9.2.1) Try.underlying26 rfl conf_info ?_; simp only [Act.put, List.setIfInBounds_toArray, List.set_cons_zero, List.set_cons_succ]) | (refine Plan.take ?_ (by rfl) ?_ ?_; rotate_left; (· rintro w9 ⟨⟨u0, u1, u2⟩, u3, u4, u5, u6⟩; go_simp; (try rw [if_neg (by omega)]); all_goals (with_reducible rfl)); simp only [Act.put, List.setIfInBounds_toArray, List.set_cons_zero, List.set_cons_succ]) | (refine Plan.pass (by rfl) ?_; simp only [Act.put, List.setIfInBounds_toArray, List.set_cons_zero, List.set_cons_succ]))
                  refine Plan.call (by rfl) 26 _ ?_ (HDY.out _) ?_
                  · go_simp
                  rintro r9 w2 ⟨rfl, h2⟩
                  have K2 := K.drew.on h2
                  have hg2 := e_on h2 (show wr.drew.heap[g]? = _ from hg) (e_lt hg)
                  refine ⟨_, rfl, ⟨three_row K2.hp, K2.hc, hg2, two_row hg2⟩, ?_⟩
                  simp only [Act.put, List.setIfInBounds_toArray, List.set_cons_zero, List.set_cons_succ]
                  repeat (first | (refine Plan.take ?_ (by rfl) ?_ ?_; rotate_left; (· rintro w9 ⟨⟨u0, u1, u2⟩, u3, u4, u5, u6⟩; go_simp; (try rw [if_neg (by omega)]); all_goals (with_reducible rfl)); simp only [Act.put, List.setIfInBounds_toArray, List.set_cons_zero, List.set_cons_succ]) | (refine Plan.pass (by rfl) ?_; simp only [Act.put, List.setIfInBounds_toArray, List.set_cons_zero, List.set_cons_succ]))
                  refine Plan.call (by rfl) 27 _ ?_ (HH.out w2 K2.hb) ?_
                  · go_simp
                  rintro r9 w3 ⟨rfl, h3⟩
                  have K3 := K2.on h3
                  have hg3 := e_on h3 hg2 (e_lt hg2)
                  refine ⟨_, rfl, ⟨three_row K3.hp, K3.hc, hg3, two_row hg3⟩, ?_⟩
                  simp only [Act.put, List.setIfInBounds_toArray, List.set_cons_zero, List.set_cons_succ]
                  repeat (first | (refine Plan.take ?_ (by rfl) ?_ ?_; rotate_left; (· rintro w9 ⟨⟨u0, u1, u2⟩, u3, u4, u5, u6⟩; go_simp; (try rw [if_neg (by omega)]); all_goals (with_reducible rfl)); simp only [Act.put, List.setIfInBounds_toArray, List.set_cons_zero, List.set_cons_succ]) | (refine Plan.pass (by rfl) ?_; simp only [Act.put, List.setIfInBounds_toArray, List.set_cons_zero, List.set_cons_succ]))
                  refine Plan.ends ?_
                  clear K hg K2 hg2
                  go_wp2_with fail
                  go_ret
                  exact ⟨i_b hR.out.symm, K3.hb⟩
          · skip
            by_cases q1 : k = -1
            · have HOK := Lib.hid (show laneOk D L k = true from by rw [q1]; exact lane_none)
              have t1 : (k == (-1 : Int)) = true := by simpa using q1
              have t9 : (k != (-1 : Int)) = false := by simpa using q1
              have hgd : wr.drew.heap[g]? = _ := hg
              go_wp2_with fail
              refine Plan.start (fun W => (W.cell? ⟨w.heap.size, 0, none⟩ = some (.slice a j c) ∧ W.cell? ⟨w.heap.size, 1, none⟩ = some (.int .i64 h) ∧ W.cell? ⟨w.heap.size, 2, none⟩ = some (.int .i64 k)) ∧ W.heap[w.heap.size + 1]? = some (confRow cz cs cb cq cd ch) ∧ W.heap[g]? = some (.cells #[.int .i64 h, .int .i64 k] 62) ∧ W.cell? ⟨g, 0, none⟩ = some (.int .i64 h) ∧ W.cell? ⟨g, 1, none⟩ = some (.int .i64 k)) [(0, true), (1, true), (2, true), (3, true), (4, true), (5, true), (6, true), (7, true), (8, true), (9, false), (10, true), (11, true), (12, true), (13, true), (14, true), (15, true), (16, true), (17, false), (18, true), (19, true)] (by kernel_rfl) (by kernel_rfl) (by kernel_rfl) (by kernel_rfl) ⟨three_row K.hp, K.hc, hg, two_row hg⟩ ?_
              simp only [List.map_cons, List.map_nil, List.getElem?_toArray, List.getElem?_cons_zero, List.getElem?_cons_succ]
              repeat (first | (refine Plan.take ?_ (by rfl) ?_ ?_; rotate_left; (· rintro w9 ⟨⟨u0, u1, u2⟩, u3, u4, u5, u6⟩; go_simp; (try rw [if_neg (by omega)]); all_goals (with_reducible rfl)); simp only [Act.put, List.setIfInBounds_toArray, List.set_cons_zero, List.set_cons_succ]) | (refine Plan.pass (by rfl) ?_; simp only [Act.put, List.setIfInBounds_toArray, List.set_cons_zero, List.set_cons_succ]))
              refine Plan.pass' (by rfl) ⟨three_row K.drew.hp, K.drew.hc, hgd, two_row hgd⟩ ?_
              simp only [Act.put, List.setIfInBounds_toArray, List.set_cons_zero, List.set_cons_succ]
              repeat (first | (refine Plan.take ?_ (by rfl) ?_ ?_; rotate_left; (· rintro w9 ⟨⟨u0, u1, u2⟩, u3, u4, u5, u6⟩; go_simp; (try rw [if_neg (by omega)]); all_goals (with_reducible rfl)); simp only [Act.put, List.setIfInBounds_toArray, List.set_cons_zero, List.set_cons_succ]) | (refine Plan.pass (by rfl) ?_; simp only [Act.put, List.setIfInBounds_toArray, List.set_cons_zero, List.set_cons_succ]))
              refine Plan.pass' (by rfl) ⟨three_row K.drew.hp, K.drew.hc, hgd, two_row hgd⟩ ?_
              simp only [Act.put, List.setIfInBounds_toArray, List.set_cons_zero, List.set_cons_succ]
              repeat (first | (refine Plan.take ?_ (by rfl) ?_ ?_; rotate_left; (· rintro w9 ⟨⟨u0, u1, u2⟩, u3, u4, u5, u6⟩; go_simp; (try rw [if_neg (by omega)]); all_goals (with_reducible rfl)); simp only [Act.put, List.setIfInBounds_toArray, List.set_cons_zero, List.set_cons_succ]) | (refine Plan.pass (by rfl) ?_; simp only [Act.put, List.setIfInBounds_toArray, List.set_cons_zero, List.set_cons_succ]))
              refine Plan.ends ?_
              have K2 := K.drew
              clear K hg
              go_wp2_with fail
              go_roundw
              case rel => exact ⟨2, by go_num, by omega, Lib.hid ⟨fun _ => hla.out.1 (by omega), fun _ => HOK.out⟩, K2, hgd⟩
              case measure => simp [intOf]
            · have t1 : (k == (-1 : Int)) = false := by simpa using q1
              have t9 : (k != (-1 : Int)) = true := by simpa using q1
              have HDYi := HDC.out k
              cases hd : D k
              · have hR := Lib.hid (HL2.out (lane_bad q1 hd))
                rw [hd] at HDYi
                have HDY := Lib.hid HDYi
                clear HDYi
                go_wp2_with fail
                refine Plan.start (fun W => (W.cell? ⟨w.heap.size, 0, none⟩ = some (.slice a j c) ∧ W.cell? ⟨w.heap.size, 1, none⟩ = some (.int .i64 h) ∧ W.cell? ⟨w.heap.size, 2, none⟩ = some (.int .i64 k)) ∧ W.heap[w.heap.size + 1]? = some (confRow cz cs cb cq cd ch) ∧ W.heap[g]? = some (.cells #[.int .i64 h, .int .i64 k] 62) ∧ W.cell? ⟨g, 0, none⟩ = some (.int .i64 h) ∧ W.cell? ⟨g, 1, none⟩ = some (.int .i64 k)) [(0, true), (1, true), (2, true), (3, true), (4, true), (5, true), (6, true), (7, true), (8, true), (9, false), (10, true), (11, true), (12, true), (13, true), (14, true), (15, true), (16, true), (17, false), (18, true), (19, true)] (by kernel_rfl) (by kernel_rfl) (by kernel_rfl) (by kernel_rfl) ⟨three_row K.hp, K.hc, hg, two_row hg⟩ ?_
                simp only [List.map_cons, List.map_nil, List.getElem?_toArray, List.getElem?_cons_zero, List.getElem?_cons_succ]
                repeat (first | (refine Plan.take_load 26 (.tmp 3) (w.heap.size + 1) _ (by rfl) rfl (by rfl) (fun w9 h9 => h9.2.1) Try.underlying26 rfl conf_info ?_; simp only [Act.put, List.setIfInBounds_toArray, List.set_cons_zero, List.set_cons_succ]) | (refine Plan.take ?_ (by rfl) ?_ ?_; rotate_left; (· rintro w9 ⟨⟨u0, u1, u2⟩, u3, u4, u5, u6⟩; go_simp; (try rw [if_neg (by omega)]); all_goals (with_reducible rfl)); simp only [Act.put, List.setIfInBounds_toArray, List.set_cons_zero, List.set_cons_succ]) | (refine Plan.pass (by rfl) ?_; simp only [Act.put, List.setIfInBounds_toArray, List.set_cons_zero, List.set_cons_succ]))
                refine Plan.call (by rfl) 26 _ ?_ (HDY.out _) ?_
                · go_simp
                rintro r9 w2 ⟨rfl, h2⟩
                have K2 := K.drew.on h2
                have hg2 := e_on h2 (show wr.drew.heap[g]? = _ from hg) (e_lt hg)
                refine ⟨_, rfl, ⟨three_row K2.hp, K2.hc, hg2, two_row hg2⟩, ?_⟩
                simp only [Act.put, List.setIfInBounds_toArray, List.set_cons_zero, List.set_cons_succ]
                repeat (first | (refine Plan.take ?_ (by rfl) ?_ ?_; rotate_left; (· rintro w9 ⟨⟨u0, u1, u2⟩, u3, u4, u5, u6⟩; go_simp; (try rw [if_neg (by omega)]); all_goals (with_reducible rfl)); simp only [Act.put, List.setIfInBounds_toArray, List.set_cons_zero, List.set_cons_succ]) | (refine Plan.pass (by rfl) ?_; simp only [Act.put, List.setIfInBounds_toArray, List.set_cons_zero, List.set_cons_succ]))
                refine Plan.pass' (by rfl) ⟨three_row K2.hp, K2.hc, hg2, two_row hg2⟩ ?_
                simp only [Act.put, List.setIfInBounds_toArray, List.set_cons_zero, List.set_cons_succ]
                repeat (first | (refine Plan.take ?_ (by rfl) ?_ ?_; rotate_left; (· rintro w9 ⟨⟨u0, u1, u2⟩, u3, u4, u5, u6⟩; go_simp; (try rw [if_neg (by omega)]); all_goals (with_reducible rfl)); simp only [Act.put, List.setIfInBounds_toArray, List.set_cons_zero, List.set_cons_succ]) | (refine Plan.pass (by rfl) ?_; simp only [Act.put, List.setIfInBounds_toArray, List.set_cons_zero, List.set_cons_succ]))
                refine Plan.ends ?_
                clear K hg
                go_wp2_with fail
                go_ret
                exact ⟨i_b hR.out.symm, K2.hb⟩
              · rw [hd] at HDYi
                have HDY := Lib.hid HDYi
                clear HDYi
                have HHi := HHAS.out k
                cases hh : hasL L k
                · have HOK := Lib.hid (lane_ok (D := D) (L := L) (x := k) hd hh)
                  rw [hh] at HHi
                  have HH := Lib.hid HHi
                  clear HHi
                  go_wp2_with fail
                  refine Plan.start (fun W => (W.cell? ⟨w.heap.size, 0, none⟩ = some (.slice a j c) ∧ W.cell? ⟨w.heap.size, 1, none⟩ = some (.int .i64 h) ∧ W.cell? ⟨w.heap.size, 2, none⟩ = some (.int .i64 k)) ∧ W.heap[w.heap.size + 1]? = some (confRow cz cs cb cq cd ch) ∧ W.heap[g]? = some (.cells #[.int .i64 h, .int .i64 k] 62) ∧ W.cell? ⟨g, 0, none⟩ = some (.int .i64 h) ∧ W.cell? ⟨g, 1, none⟩ = some (.int .i64 k)) [(0, true), (1, true), (2, true), (3, true), (4, true), (5, true), (6, true), (7, true), (8, true), (9, false), (10, true), (11, true), (12, true), (13, true), (14, true), (15, true), (16, true), (17, false), (18, true), (19, true)] (by kernel_rfl) (by kernel_rfl) (by kernel_rfl) (by kernel_rfl) ⟨three_row K.hp, K.hc, hg, two_row hg⟩ ?_
                  simp only [List.map_cons, List.map_nil, List.getElem?_toArray, List.getElem?_cons_zero, List.getElem?_cons_succ]
                  repeat (first | (refine Plan.take_load 26 (.tmp 3) (w.heap.size + 1) _ (by rfl) rfl (by rfl) (fun w9 h9 => h9.2.1) Try.underlying26 rfl conf_info ?_; simp only [Act.put, List.setIfInBounds_toArray, List.set_cons_zero, List.set_cons_succ]) | (refine Plan.take ?_ (by rfl) ?_ ?_; rotate_left; (· rintro w9 ⟨⟨u0, u1, u2⟩, u3, u4, u5, u6⟩; go_simp; (try rw [if_neg (by omega)]); all_goals (with_reducible rfl)); simp only [Act.put, List.setIfInBounds_toArray, List.set_cons_zero, List.set_cons_succ]) | (refine Plan.pass (by rfl) ?_; simp only [Act.put, List.setIfInBounds_toArray, List.set_cons_zero, List.set_cons_succ]))
                  refine Plan.call (by rfl) 26 _ ?_ (HDY.out _) ?_
                  · go_simp
                  rintro r9 w2 ⟨rfl, h2⟩
                  have K2 := K.drew.on h2
                  have hg2 := e_on h2 (show wr.drew.heap[g]? = _ from hg) (e_lt hg)
                  refine ⟨_, rfl, ⟨three_row K2.hp, K2.hc, hg2, two_row hg2⟩, ?_⟩
                  simp only [Act.put, List.setIfInBounds_toArray, List.set_cons_zero, List.set_cons_succ]
                  repeat (first | (refine Plan.take ?_ (by rfl) ?_ ?_; rotate_left; (· rintro w9 ⟨⟨u0, u1, u2⟩, u3, u4, u5, u6⟩; go_simp; (try rw [if_neg (by omega)]); all_goals (with_reducible rfl)); simp only [Act.put, List.setIfInBounds_toArray, List.set_cons_zero, List.set_cons_succ]) | (refine Plan.pass (by rfl) ?_; simp only [Act.put, List.setIfInBounds_toArray, List.set_cons_zero, List.set_cons_succ]))
                  refine Plan.call (by rfl) 27 _ ?_ (HH.out w2 K2.hb) ?_
                  · go_simp
                  rintro r9 w3 ⟨rfl, h3⟩
                  have K3 := K2.on h3
                  have hg3 := e_on h3 hg2 (e_lt hg2)
                  refine ⟨_, rfl, ⟨three_row K3.hp, K3.hc, hg3, two_row hg3⟩, ?_⟩
                  simp only [Act.put, List.setIfInBounds_toArray, List.set_cons_zero, List.set_cons_succ]
                  repeat (first | (refine Plan.take ?_ (by rfl) ?_ ?_; rotate_left; (· rintro w9 ⟨⟨u0, u1, u2⟩, u3, u4, u5, u6⟩; go_simp; (try rw [if_neg (by omega)]); all_goals (with_reducible rfl)); simp only [Act.put, List.setIfInBounds_toArray, List.set_cons_zero, List.set_cons_succ]) | (refine Plan.pass (by rfl) ?_; simp only [Act.put, List.setIfInBounds_toArray, List.set_cons_zero, List.set_cons_succ]))
                  refine Plan.ends ?_
                  clear K hg K2 hg2
                  go_wp2_with fail
                  go_roundw
                  case rel => exact ⟨2, by go_num, by omega, Lib.hid ⟨fun _ => hla.out.1 (by omega), fun _ => HOK.out⟩, K3, hg3⟩
                  case measure => simp [intOf]
                · have hR := Lib.hid (HL2.out (lane_in q1 hh))
                  rw [hh] at HHi
                  have HH := Lib.hid HHi
                  clear HHi
                  go_wp2_with fail
                  refine Plan.start (fun W => (W.cell? ⟨w.heap.size, 0, none⟩ = some (.slice a j c) ∧ W.cell? ⟨w.heap.size, 1, none⟩ = some (.int .i64 h) ∧ W.cell? ⟨w.heap.size, 2, none⟩ = some (.int .i64 k)) ∧ W.heap[w.heap.size + 1]? = some (confRow cz cs cb cq cd ch) ∧ W.heap[g]? = some (.cells #[.int .i64 h, .int .i64 k] 62) ∧ W.cell? ⟨g, 0, none⟩ = some (.int .i64 h) ∧ W.cell? ⟨g, 1, none⟩ = some (.int .i64 k)) [(0, true), (1, true), (2, true), (3, true), (4, true), (5, true), (6, true), (7, true), (8, true), (9, false), (10, true), (11, true), (12, true), (13, true), (14, true), (15, true), (16, true), (17, false), (18, true), (19, true)] (by kernel_rfl) (by kernel_rfl) (by kernel_rfl) (by kernel_rfl) ⟨three_row K.hp, K.hc, hg, two_row hg⟩ ?_
                  simp only [List.map_cons, List.map_nil, List.getElem?_toArray, List.getElem?_cons_zero, List.getElem?_cons_succ]
                  repeat (first | (refine Plan.take_load 26 (.tmp 3) (w.heap.size + 1) _ (by rfl) rfl (by rfl) (fun w9 h9 => h9.2.1) Try.underlying26 rfl conf_info ?_; simp only [Act.put, List.setIfInBounds_toArray, List.set_cons_zero, List.set_cons_succ]) | (refine Plan.take ?_ (by rfl) ?_ ?_; rotate_left; (· rintro w9 ⟨⟨u0, u1, u2⟩, u3, u4, u5, u6⟩; go_simp; (try rw [if_neg (by omega)]); all_goals (with_reducible rfl)); simp only [Act.put, List.setIfInBounds_toArray, List.set_cons_zero, List.set_cons_succ]) | (refine Plan.pass (by rfl) ?_; simp only [Act.put, List.setIfInBounds_toArray, List.set_cons_zero, List.set_cons_succ]))
                  refine Plan.call (by rfl) 26 _ ?_ (HDY.out _) ?_
                  · go_simp
                  rintro r9 w2 ⟨rfl, h2⟩
                  have K2 := K.drew.on h2
                  have hg2 := e_on h2 (show wr.drew.heap[g]? = _ from hg) (e_lt hg)
                  refine ⟨_, rfl, ⟨three_row K2.hp, K2.hc, hg2, two_row hg2⟩, ?_⟩
                  simp only [Act.put, List.setIfInBounds_toArray, List.set_cons_zero, List.set_cons_succ]
                  repeat (first | (refine Plan.take ?_ (by rfl) ?_ ?_; rotate_left; (· rintro w9 ⟨⟨u0, u1, u2⟩, u3, u4, u5, u6⟩; go_simp; (try rw [if_neg (by omega)]); all_goals (with_reducible rfl)); simp only [Act.put, List.setIfInBounds_toArray, List.set_cons_zero, List.set_cons_succ]) | (refine Plan.pass (by rfl) ?_; simp only [Act.put, List.setIfInBounds_toArray, List.set_cons_zero, List.set_cons_succ]))
                  refine Plan.call (by rfl) 27 _ ?_ (HH.out w2 K2.hb) ?_
                  · go_simp
                  rintro r9 w3 ⟨rfl, h3⟩
                  have K3 := K2.on h3
                  have hg3 := e_on h3 hg2 (e_lt hg2)
                  refine ⟨_, rfl, ⟨three_row K3.hp, K3.hc, hg3, two_row hg3⟩, ?_⟩
                  simp only [Act.put, List.setIfInBounds_toArray, List.set_cons_zero, List.set_cons_succ]
                  repeat (first | (refine Plan.take ?_ (by rfl) ?_ ?_; rotate_left; (· rintro w9 ⟨⟨u0, u1, u2⟩, u3, u4, u5, u6⟩; go_simp; (try rw [if_neg (by omega)]); all_goals (with_reducible rfl)); simp only [Act.put, List.setIfInBounds_toArray, List.set_cons_zero, List.set_cons_succ]) | (refine Plan.pass (by rfl) ?_; simp only [Act.put, List.setIfInBounds_toArray, List.set_cons_zero, List.set_cons_succ]))
                  refine Plan.ends ?_
                  clear K hg K2 hg2
                  go_wp2_with fail
                  go_ret
                  exact ⟨i_b hR.out.symm, K3.hb⟩
          · obtain ⟨v0, v1, v2⟩ := three_row K.hp
            have hR := HAL.out HE.out hfr.out (hla.out.1 (by omega)) (hla.out.2 (by omega))
            by_cases q1 : h = -1
            · have t1 : (h == (-1 : Int)) = true := by simpa using q1
              rw [decide_eq_true q1, Bool.true_or] at hR
              have hR := Lib.hid hR
              clear q1
              go_wp2_with fail
              go_ret
              exact ⟨i_b hR.out.symm, K.hb⟩
            · have t1 : (h == (-1 : Int)) = false := by simpa using q1
              rw [decide_eq_false q1, Bool.false_or] at hR
              clear q1
              by_cases q2 : h = k
              · have t2 : (h != k) = false := by simpa using q2
                rw [decide_eq_true q2] at hR
                have hR := Lib.hid hR
                clear q2
                go_wp2_with fail
                go_ret
                exact ⟨i_b hR.out.symm, K.hb⟩
              · have t2 : (h != k) = true := by simpa using q2
                rw [decide_eq_false q2] at hR
                have hR := Lib.hid hR
                clear q2
                go_wp2_with fail
                go_ret
                exact ⟨i_b hR.out.symm, K.hb⟩
  · have t0 : (E != 0) = true := by simpa using hE
    have hR := Lib.hid (HVE.out (decide_eq_false hE))
    clear hE
    go_wp2_with (first
      | ((with_reducible refine Plan.load_lit 26 (.tmp 3) (w.heap.size + 1) ?_ K.hc Try.underlying26 ?_ ?_ ?_); (· rfl); (· rfl); (· exact conf_info); simp only [Act.put, List.setIfInBounds_toArray, List.set_cons_zero, List.set_cons_succ])
      | (go_at_call 28; ((with_reducible refine (HCK.out _).mono ?_); rintro r9 w1 ⟨rfl, h1⟩; have K1 := K.on h1; clear K hw0 h1; have K := K1; clear K1)))
    go_ret
    exact ⟨i_b hR.out.symm, K.hb⟩
end Go.Proofs.Ytjdlekjikemdpaa.Ents

/- The walk of the document's Valid of epochs. -/
namespace Go.Proofs.Ytjdlekjikemdpaa.Ents
open Go.RowKit Plan EntMath CntMath EpoMath Rws
theorem pin_ways (G p : Int) : (p = -1) ∨ (p ≠ -1 ∧ p < 0) ∨ (p ≠ -1 ∧ ¬ p < 0 ∧ p = G) ∨ (p ≠ -1 ∧ ¬ p < 0 ∧ p ≠ G ∧ p = G - 1) ∨ (p ≠ -1 ∧ ¬ p < 0 ∧ p ≠ G ∧ p ≠ G - 1) := by omega
theorem head_ways (n : Nat) (g : Int) : (n < 1) ∨ (¬ n < 1 ∧ 4 < n) ∨ (¬ n < 1 ∧ ¬ 4 < n ∧ g < 0) ∨ (¬ n < 1 ∧ ¬ 4 < n ∧ ¬ g < 0 ∧ 1099511627776 < g) ∨ (¬ n < 1 ∧ ¬ 4 < n ∧ ¬ g < 0 ∧ ¬ 1099511627776 < g) := by omega
end Go.Proofs.Ytjdlekjikemdpaa.Ents

/- The walks of the document's pin, Pin, Unpin of epochs. -/
namespace Go.Proofs.Ytjdlekjikemdpaa.Ents
open Go.RowKit Plan EntMath CntMath EpoMath Rws
theorem heap2e (w : World) (p q : Obj) : Below w.heap.size w ((w.alloc p).alloc q) := ((Below.refl w.heap.size w).alloc (Nat.le_refl _) p).alloc (by simp) q
theorem Own.row2 {w : World} {B sz g n cap X : Nat} {t : TypeId} {L : List Value} (h : w.ownsRow B t sz (.slice (some ⟨g, 0, none⟩) n cap) n L) (cs : Array Value) (hX : X ≠ g) : (w.setRow X cs).ownsRow B t sz (.slice (some ⟨g, 0, none⟩) n cap) n L := by
  obtain ⟨h1, h2⟩ := h
  refine ⟨h1, ?_⟩
  rcases h2 with h3 | ⟨g', cap', cur, hv, hb, hg, h4⟩
  · exact .inl h3
  · cases hv
    exact .inr ⟨g, cap, cur, rfl, hb, (setRow_other w X g cs (Ne.symm hX)).trans hg, h4⟩
theorem in_no_e {E : Epo} {s : Int} {n : Nat} (h : validE E = false ∨ (validE E = true ∧ s < 0) ∨ (validE E = true ∧ ¬ s < 0 ∧ (n : Int) ≤ s)) (hn : E.pins.length = n) : inE E s = false := by
  cases hi : inE E s
  · rfl
  · have h1 := in_e.1 hi
    rcases h with h | ⟨_, h⟩ | ⟨_, h, h2⟩
    · rw [h1.1] at h; cases h
    · omega
    · omega
theorem in_three_e {E : Epo} {s : Int} {n : Nat} : (validE E = false ∨ (validE E = true ∧ s < 0) ∨ (validE E = true ∧ ¬ s < 0 ∧ (n : Int) ≤ s)) ∨ (validE E = true ∧ ∃ k : Nat, s = (k : Int) ∧ k < n) := by
  cases hv : validE E
  · exact .inl (.inl rfl)
  · by_cases h1 : s < 0
    · exact .inl (.inr (.inl ⟨rfl, h1⟩))
    · by_cases h2 : (n : Int) ≤ s
      · exact .inl (.inr (.inr ⟨rfl, h1, h2⟩))
      · exact .inr ⟨rfl, s.toNat, by omega, by omega⟩
end Go.Proofs.Ytjdlekjikemdpaa.Ents
