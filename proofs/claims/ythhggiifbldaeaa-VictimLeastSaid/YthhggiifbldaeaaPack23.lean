/- Texts that belong together, part 23. -/
import Derived.Test.YthhggiifbldaeaaPack22

/- The walk of the law's awake. -/
namespace Go.Proofs.Ythhggiifbldaeaa.Ents
open Go.RowKit Plan ZnsMath EntMath CntMath EpoMath LayMath VicMath
theorem rep_set {α : Type} (a b : α) (k m : Nat) : (List.replicate k a ++ List.replicate (m + 1) b).set k a = List.replicate (k + 1) a ++ List.replicate m b := by
  rw [List.set_append_right _ _ (by simp), List.length_replicate, Nat.sub_self, List.replicate_succ (n := m), List.set_cons_zero, List.replicate_succ' (n := k), List.append_assoc]
  rfl
abbrev awZ (k : Nat) : List Zone := List.replicate k ⟨4, 0, []⟩ ++ List.replicate (8 - k) ⟨0, 0, []⟩
abbrev awL (k : Nat) : List Int := List.replicate k 2 ++ List.replicate (8 - k) 0
theorem awZ_next {k : Nat} (h : k < 8) : (awZ k).set k ⟨4, 0, []⟩ = awZ (k + 1) ∧ (awZ k)[k]? = some ⟨0, 0, []⟩ := by
  unfold awZ
  rw [show 8 - k = (8 - (k + 1)) + 1 by omega]
  exact ⟨rep_set _ _ _ _, by rw [List.getElem?_append_right (by simp), List.length_replicate, Nat.sub_self, List.replicate_succ]; rfl⟩
theorem awL_next {k : Nat} (h : k < 8) : (awL k).set k 2 = awL (k + 1) := by
  unfold awL
  rw [show 8 - k = (8 - (k + 1)) + 1 by omega]
  exact rep_set _ _ _ _
theorem aw14_small : smZ [] 0 = 8 ∧ smS [] 0 = 3 ∧ smB [] 0 = 1 ∧ smQ [] 0 = 1 ∧ smD [] 0 = 1 ∧ smH [] 0 = 1 := by decide
theorem aw14_a : bestV (canV (isN 8 3 1 1 1 1) (awZ 8) ⟨awL 8, List.replicate 8 0⟩ [] 7 (-1) 3) (awL 8) (awZ 8).length = (0, false) := by rfl
theorem aw14_b : bestV (canV (isN 8 3 1 1 1 1) (awZ 8) ⟨((awL 8).set 6 0).set 5 1, List.replicate 8 0⟩ [] 7 (-1) 3) (((awL 8).set 6 0).set 5 1) (awZ 8).length = (6, true) := by rfl
theorem aw14_c : deadV (canV (isN 8 3 1 1 1 1) (awZ 8) ⟨((awL 8).set 6 0).set 5 1, List.replicate 8 0⟩ [] 7 (-1) 3) (((awL 8).set 6 0).set 5 1) 3 (awZ 8).length = 3 := by rfl
set_option maxHeartbeats 16000000 in
set_option maxRecDepth 40000 in
theorem vicAwake_any (w : World) : Calls Try.prog 6 #[] w fun r w' => r = .returned (.bool true) ∧ Below w.heap.size w w' := by
  have HMD := Lib.hid (fun W => made14_any none 0 0 [] W (.inl ⟨rfl, rfl, rfl, rfl⟩) (by decide))
  unfold MadePost at HMD
  go_enter Try.func6, Try.ntmps6
  go_upto_region 2 with (first
    | (go_at_call 7; ((with_reducible refine (HMD.out _).mono ?_); rintro r9 w1 ⟨q, zn, g, cs, cb, cq, cd, ch, k3, S, Z, Cn, E, CV, rfl, hB, hq, hzn, hcs, hk3, hk0, ⟨e1, e2, e3, e4, e5, e6⟩, M, F⟩; have hZ0 := heap_alloc_new w1 (stRow st0)))
    | ((with_reducible refine Plan.store_lit 58 (.tmp 1) _ w1.heap.size (stArr S) hZ0 ?_ ?_ ?_ ?_ ?_ ?_); rotate_left; (· rfl); (· exact st_info); (· rfl); (· simp [Value.oneCell']); rotate_left; (· rfl); simp only [Act.put]))
  have hT0 := setRow_heap _ _ _ (stArr S) _ _ hZ0
  have M1 := ((M.more (x := w1.heap.size) (Nat.le_refl _)).on ((Below.refl _ _).alloc (Nat.le_refl _) (stRow st0))).box (x := w1.heap.size) (.head _) (stArr S)
  have B1 := below_setRow (hB.alloc hB.size (stRow st0)) hB.size (stArr S)
  have hwT := hB.size
  clear M hB HMD hZ0
  generalize World.setRow (w1.alloc _) w1.heap.size (stArr S) = w2 at *
  generalize w1.heap.size = T at *
  obtain ⟨a1, a2, a3, a4, a5, a6⟩ := aw14_small
  have hk := hk0 rfl
  obtain ⟨f1, f2, f3, f4⟩ := F.none rfl
  obtain ⟨c1, c2, c3, c4, c5, c6⟩ := F.conf
  obtain ⟨b1, b2, b3, b4⟩ := F.dev
  obtain ⟨n1, n2, -, -⟩ := F.cnt
  obtain ⟨l1, l2⟩ := F.lane
  have e1' : smZ [] 0 = (zn : Int) := e1
  have e2' : smS [] 0 = cs := e2
  have e3' : smB [] 0 = cb := e3
  have e4' : smQ [] 0 = cq := e4
  have e5' : smD [] 0 = cd := e5
  have e6' : smH [] 0 = ch := e6
  rw [a1] at e1'
  rw [a2] at e2'
  rw [a3] at e3'
  rw [a4] at e4'
  rw [a5] at e5'
  rw [a6] at e6'
  obtain rfl : zn = 8 := by omega
  subst e2' e3' e4' e5' e6' hk
  clear e1 e2 e3 e4 e5 e6 e1' a1 a2 a3 a4 a5 a6 F hk0 hk3 hcs hzn
  have HCAN := Lib.hid (fun (Z : List Zone) (C : Cnt) => (show canS S Z C E = canV (isN 8 3 1 1 1 1) Z C [] 7 (-1) 3 from by unfold canS; rw [c1, c2, c3, c4, c5, c6, l1, l2, f4]; rfl))
  have HSC := Lib.hid c2
  obtain ⟨gl, hgl, hqg⟩ := M1.liveAt (by omega)
  obtain ⟨Cl, Cp⟩ := Cn
  try simp only at f2 f3
  subst f1 f2 f3
  have hgq := (M1.zo.lt g (by unfold slV; rw [b2]; rfl)).1
  have hTg : T ≠ g := fun e => (M1.nb T (.head _)).1 (by unfold slV; rw [b2, e]; rfl)
  have hTl : T ≠ gl := fun e => (M1.nb T (.head _)).2.1 (by unfold slV; rw [hgl, e]; rfl)
  have HF := Lib.hid (fun (W : World) (h : W.heap[T]? = some (stRow S)) => (show W.cell? ⟨T, 9, none⟩ = some (.slice (some ⟨g, 0, none⟩) 8 S.zC) ∧ W.cell? ⟨T, 11, none⟩ = some (.slice (some ⟨gl, 0, none⟩) 8 S.lC) from ⟨by rw [← b2, ← b3]; exact st_cell h rfl, by rw [← hgl, ← n1]; exact st_cell h rfl⟩))
  have Hb2 := Lib.hid b2
  have Hb3 := Lib.hid b3
  have Hgl := Lib.hid hgl
  have Hn1 := Lib.hid n1
  clear b1 b2 b3 b4 c1 c2 c3 c4 c5 c6 l1 l2 n1 n2 f4 hgl
  go_wp2_with fail
  go_loopw [2] (fun x wr => ∃ k : Nat, x = .int .i64 (k : Int) ∧ k ≤ 8 ∧ (∃ CV, MkL wr q [T] S (awZ k) ⟨awL k, List.replicate 8 0⟩ E CV) ∧ wr.heap[T]? = some (stRow S) ∧ Below w.heap.size w wr) (fun x _ => 8 - (intOf x).toNat)
  case atStart => exact ⟨0, rfl, by omega, ⟨_, M1⟩, hT0, B1⟩
  case round =>
    clear M1 hT0 B1
    obtain ⟨k, rfl, hk, ⟨CV, M⟩, hT, hb⟩ := hrel
    obtain ⟨d9, d11⟩ := HF.out wr hT
    by_cases hlt : k < 8
    · have hkI : (k : Int) < 8 := by omega
      obtain ⟨hz1, hz2⟩ := awZ_next hlt
      have hl1 := awL_next hlt
      obtain ⟨zc1, zc2⟩ := M.zcell Hb2.out (j := k) (by simp [awZ]; omega)
      have M2 := M.stz Hb2.out hz2 4
      rw [show (⟨4, (⟨0, 0, []⟩ : Zone).durable, (⟨0, 0, []⟩ : Zone).sectors⟩ : Zone) = ⟨4, 0, []⟩ from rfl, hz1] at M2
      obtain ⟨lc1, lc2⟩ := M2.lcell Hgl.out (j := k) (by have := Hn1.out; omega)
      have M3 := M2.lst Hgl.out k 2
      simp only at M3
      rw [hl1] at M3
      have hT1 := box_cell (o := k * 3) (v := .int .i64 4) hT hTg
      have hT2 := box_cell (o := k) (v := .int .i64 2) hT1 hTl
      have hb1 := hb.setCell (show w.heap.size ≤ (⟨g, k * 3, none⟩ : Addr).block by show w.heap.size ≤ g; omega) (.int .i64 4)
      have hb2 := hb1.setCell (show w.heap.size ≤ (⟨gl, k, none⟩ : Addr).block by show w.heap.size ≤ gl; omega) (.int .i64 2)
      obtain ⟨d9', d11'⟩ := HF.out _ hT1
      clear M M2 hz1 hz2 hl1 hb hb1
      go_wp2_with (first
        | ((with_reducible refine Mk.store_int 3 (.tmp 22) (.const (.int .i64 4)) g (k * 3) .i64 4 ?_ ?_ zc1 zc2 Put.int_info1 ?_); (· rfl); (· rfl); simp only [Act.put]; generalize World.setCell wr ⟨g, k * 3, none⟩ (.int .i64 4) = w5 at *)
        | ((with_reducible refine Put.idx_store_int 22 3 27 (.tmp 25) (.tmp 26) (.const (.int .i64 2)) gl k .i64 2 ?_ ?_ ?_ lc1 lc2 Put.int_info1 ?_); (· go_simp); (· rfl); (· rfl); intro w9 e9; rw [← e9] at M3 hT2 hb2; clear e9; simp only [Act.put, List.setIfInBounds_toArray, List.set_cons_zero, List.set_cons_succ]))
      go_roundw
      case rel => exact ⟨k + 1, by go_num, by omega, ⟨_, M3⟩, hT2, hb2⟩
      case measure => simp [intOf]; omega
    · obtain rfl : k = 8 := by omega
      have hLive : ∀ (j : Nat) l, (awL 8)[j]? = some l → -1000000 ≤ l := fun j l h => by
        have := List.mem_of_getElem? h
        simp [awL] at this
        omega
      have hLive2 : ∀ (j : Nat) l, (((awL 8).set 6 0).set 5 1)[j]? = some l → -1000000 ≤ l := fun j l h => by
        have := List.mem_of_getElem? h
        rw [show ((awL 8).set 6 0).set 5 1 = [2, 2, 2, 2, 2, 1, 0, 2] from rfl] at this
        simp at this
        omega
      have HCH1 := Lib.hid (victimOk.choose _ S _ _ E wr M.vlist (by have := Hb3.out; omega))
      rw [HCAN.out, aw14_a] at HCH1
      have hbs := hb.size
      go_upto_region 9 with (first
        | ((with_reducible refine Plan.load_lit 58 (.tmp 1) T ?_ hT Try.underlying58 ?_ ?_ ?_); (· rfl); (· rfl); (· exact st_info); simp only [Act.put, List.setIfInBounds_toArray, List.set_cons_zero, List.set_cons_succ])
        | (go_at_call 11; ((with_reducible refine HCH1.out.mono ?_); rintro r9 w3 ⟨rfl, h1⟩; have M3 := M.on h1; have hT3 := e_on h1 hT (e_lt hT); have hb3 := hb.trans (h1.mono hbs); clear M hT hb h1 HCH1 d9 d11)))
      have M4 := M3.on (Below.refl _ _).drew
      have hT4 := e_on (Below.refl _ _).drew hT3 (e_lt hT3)
      have hb4 := hb3.drew
      clear M3 hT3 hb3
      obtain ⟨lc1, lc2⟩ := M4.lcell Hgl.out (j := 6) (by have := Hn1.out; omega)
      have M5 := M4.lst Hgl.out 6 0
      obtain ⟨lc3, lc4⟩ := M5.lcell Hgl.out (j := 5) (by have := Hn1.out; omega)
      have M6 := M5.lst Hgl.out 5 1
      simp only at M6
      have hT5 := box_cell (o := 6) (v := .int .i64 0) hT4 hTl
      have hT6 := box_cell (o := 5) (v := .int .i64 1) hT5 hTl
      have hb5 := hb4.setCell (show w.heap.size ≤ (⟨gl, 6, none⟩ : Addr).block by show w.heap.size ≤ gl; omega) (.int .i64 0)
      have hb6 := hb5.setCell (show w.heap.size ≤ (⟨gl, 5, none⟩ : Addr).block by show w.heap.size ≤ gl; omega) (.int .i64 1)
      have hw6 : IntKind.i64.wrap 6 = 6 := IntWalk.i64_in _ (by omega)
      have hw5 : IntKind.i64.wrap 5 = 5 := IntWalk.i64_in _ (by omega)
      refine Plan.start (fun W => W.cell? ⟨T, 11, none⟩ = some (.slice (some ⟨gl, 0, none⟩) 8 S.lC)) [(0, true), (1, true), (2, true), (3, true), (4, true), (5, true), (6, true), (7, true), (8, true), (9, true), (10, true), (11, false), (12, true), (13, false)] (by kernel_rfl) (by kernel_rfl) (by kernel_rfl) (by kernel_rfl) (HF.out _ hT4).2 ?_
      simp only [List.map_cons, List.map_nil, List.getElem?_toArray, List.getElem?_cons_zero, List.getElem?_cons_succ]
      repeat (first | (refine Plan.take ?_ (by rfl) ?_ ?_; rotate_left; (· rintro w9 u0; go_simp; (try rw [if_neg (by omega)]); all_goals (with_reducible rfl)); simp only [Act.put, List.setIfInBounds_toArray, List.set_cons_zero, List.set_cons_succ]))
      refine Plan.carry (by rfl) (Put.wp_store_int 3 (.tmp 47) (.const (.int .i64 0)) rfl gl 6 .i64 0 rfl rfl lc1 lc2 Put.int_info1 ⟨(HF.out _ hT5).2, ?_⟩)
      simp only [Act.put]
      repeat (first | (refine Plan.take ?_ (by rfl) ?_ ?_; rotate_left; (· rintro w9 u0; go_simp; (try rw [if_neg (by omega)]); all_goals (with_reducible rfl)); simp only [Act.put, List.setIfInBounds_toArray, List.set_cons_zero, List.set_cons_succ]))
      refine Plan.carry (by rfl) (Put.wp_store_int 3 (.tmp 48) (.const (.int .i64 1)) rfl gl 5 .i64 1 rfl rfl lc3 lc4 Put.int_info1 ⟨(HF.out _ hT6).2, ?_⟩)
      simp only [Act.put]
      refine Plan.ends ?_
      clear M4 M5 hT4 hT5 hb4 hb5 lc1 lc2 lc3 lc4
      generalize World.setCell (World.setCell _ ⟨gl, 6, none⟩ _) ⟨gl, 5, none⟩ _ = w6 at *
      have HCH2 := Lib.hid (victimOk.choose _ S _ _ E w6 M6.vlist (by have := Hb3.out; omega))
      rw [HCAN.out, aw14_b] at HCH2
      have HDE := Lib.hid (fun W (h : Below w6.heap.size w6 W) => victimOk.dead _ S _ _ E W (M6.on h).vlist hLive2 (by have := Hb3.out; omega))
      rw [HCAN.out, HSC.out, aw14_c] at HDE
      have hbs6 := hb6.size
      go_wp2_with (first
        | ((with_reducible refine Plan.load_lit 58 (.tmp 1) T ?_ hT6 Try.underlying58 ?_ ?_ ?_); (· rfl); (· rfl); (· exact st_info); simp only [Act.put, List.setIfInBounds_toArray, List.set_cons_zero, List.set_cons_succ])
        | (go_at_call 11; ((with_reducible refine HCH2.out.mono ?_); rintro r9 w7 ⟨rfl, h1⟩; have hT7 := e_on h1 hT6 (e_lt hT6); have hb7 := hb6.trans (h1.mono hbs6); have hbs7 := hb7.size; clear hT6 hb6 HCH2))
        | ((with_reducible refine load_lit_g 58 (.tmp 1) T ?_ ?_ hT7 Try.underlying58 ?_ ?_ ?_); (· rfl); (· rfl); (· rfl); (· exact st_info); simp only [Act.put, List.setIfInBounds_toArray, List.set_cons_zero, List.set_cons_succ])
        | (go_at_call 13; ((with_reducible refine (HDE.out _ h1).mono ?_); rintro r9 w8 ⟨rfl, h2⟩; have hb8 := hb7.trans (h2.mono hbs7))))
      go_ret
      exact ⟨rfl, hb8⟩
end Go.Proofs.Ythhggiifbldaeaa.Ents

/- The walk of VictimMade. -/
namespace Go.Proofs.Ythhggiifbldaeaa.Ents
open Go.RowKit Plan ZnsMath EntMath CntMath EpoMath LayMath VicMath
theorem MkL.zonesIn {W : World} {q T : Nat} {bx : List Nat} {S : Sv} {Z : List Zone} {C : Cnt} {E : Epo} {CV : List Value} (M : MkL W q bx S Z C E CV) (hT : T ∈ bx) : ZonesIn W (fun b => b ≠ T) S.zA S.zN S.zC Z := by
  obtain ⟨-, a1, c1, e1, h1⟩ := owns_zones (F := fun b => b ≠ T) M.zo (M.zc.mono fun b _ h => fun e => h.2.1 (by rw [e]; exact hT)) (fun b hb e => (M.nb T hT).1 (by rw [← e]; exact hb))
  unfold slV at e1
  injection e1 with x1 _ y1
  subst x1 y1
  exact h1
theorem IList.upto {w : World} {F : Nat → Prop} {a : Option Addr} {n c : Nat} {Z : List Int} (h : IList w F a n c Z) {k : Nat} (hk : k ≤ n) : IList w F a k c (Z.take k) := by
  rcases h with ⟨_, rfl, rfl, rfl⟩ | ⟨x, h1, h2, h3, h4, h5, h6, h7⟩
  · obtain rfl : k = 0 := by omega
    exact .inl ⟨trivial, rfl, rfl, rfl⟩
  · refine .inr ⟨x, h1, by omega, h3, by rw [List.length_take]; omega, h5, h6, fun j z hz => h7 j z ?_⟩
    rw [List.getElem?_take] at hz
    split at hz
    · exact hz
    · cases hz
theorem lo_take {L : List Int} (h : ∀ (j : Nat) l, L[j]? = some l → -1000000 ≤ l) (k : Nat) : ∀ (j : Nat) l, (L.take k)[j]? = some l → -1000000 ≤ l := fun j l hj => by
  rw [List.getElem?_take] at hj
  split at hj
  · exact h j l hj
  · cases hj
theorem five {m : Int} (h : 0 ≤ m ∧ m < 5) : m = 0 ∨ m = 1 ∨ m = 2 ∨ m = 3 ∨ m = 4 := by omega
set_option maxHeartbeats 16000000 in
set_option maxRecDepth 40000 in
theorem vicMadeL_any (a0 : Option Addr) (l c0 : Nat) (zs : List Int) (pz pw pa pb : Int) (w : World) (hl : IsRow .i64 w a0 l c0 zs) :
    Calls Try.prog 3 #[.slice a0 l c0, .int .i64 pz, .int .i64 pw, .int .i64 pa, .int .i64 pb] w fun r w' => r = .returned (.bool true) ∧ Below w.heap.size w w' := by
  have HLI := Lib.hid (light_any a0 l c0)
  have HAW := Lib.hid vicAwake_any
  by_cases hm : (l : Int) ≤ 300
  · rw [decide_eq_true hm] at HLI
    have HMD := Lib.hid (made14_any a0 l c0 zs w hl hm)
    unfold MadePost at HMD
    clear hl
    go_enter Try.func3, Try.ntmps3
    go_upto_region 4 with (first
      | (go_at_call 5; ((with_reducible refine (HLI.out _).mono ?_); rintro r9 w9 ⟨rfl, rfl⟩))
      | (go_at_call 7; ((with_reducible refine HMD.out.mono ?_); rintro r9 w1 ⟨q, zn, g, cs, cb, cq, cd, ch, k3, S, Z, Cn, E, CV, rfl, hB, hq, hzn, hcs, hk3, hk0, hsm, M, F⟩; have hZ0 := heap_alloc_new w1 (stRow st0)))
      | ((with_reducible refine Plan.store_lit 58 (.tmp 11) _ w1.heap.size (stArr S) hZ0 ?_ ?_ ?_ ?_ ?_ ?_); rotate_left; (· rfl); (· exact st_info); (· rfl); (· simp [Value.oneCell']); rotate_left; (· rfl); simp only [Act.put]))
    have hT0 := setRow_heap _ _ _ (stArr S) _ _ hZ0
    have M1 := ((M.more (x := w1.heap.size) (Nat.le_refl _)).on ((Below.refl _ _).alloc (Nat.le_refl _) (stRow st0))).box (x := w1.heap.size) (.head _) (stArr S)
    have B1 := below_setRow (hB.alloc hB.size (stRow st0)) hB.size (stArr S)
    have hwT := hB.size
    clear M hB HMD hZ0
    generalize World.setRow (w1.alloc _) w1.heap.size (stArr S) = w2 at *
    generalize w1.heap.size = T at *
    have hzN : S.zN ≤ zn ∧ zn ≤ S.zN := by have := F.dev.2.2.1; omega
    have hlN : S.lN ≤ zn ∧ zn ≤ S.lN := by have := F.cnt.1; omega
    have hpN : S.pN ≤ zn ∧ zn ≤ S.pN := by have := F.cnt.2.1; omega
    have hcs2 : S.cs ≤ cs ∧ cs ≤ S.cs := by have := F.conf.2.1; omega
    have hN9 : S.zN ≤ 1000 := by omega
    have HCZ := Lib.hid F.conf.1
    have HFEW := Lib.hid F.few
    have hlive := F.live
    have hlo : ∀ (j : Nat) l, Cn.live[j]? = some l → -1000000 ≤ l := fun j l h => by have := (hlive j l h).1; omega
    have HAG := Lib.hid (fun (z : Int) W (h : Below w2.heap.size w2 W) => vicAgree_any victimOk _ S Z Cn E z W (M1.on h).vlist hlo (by omega))
    obtain ⟨kk, hkk, hkn⟩ : ∃ kk : Nat, pa % (zn : Int) = (kk : Int) ∧ kk < zn := by
      have h1 := Int.emod_nonneg pa (show (zn : Int) ≠ 0 by omega)
      have h2 := Int.emod_lt_of_pos pa (show (0 : Int) < (zn : Int) by omega)
      exact ⟨(pa % (zn : Int)).toNat, by omega, by omega⟩
    have hm1 := fun W => mod_any pa (zn : Int) (by omega) (by omega) W
    rw [hkk] at hm1
    have HM1 := Lib.hid hm1
    have hm2 := fun W => mod_any pw 5 (by decide) (by decide) W
    have hmr : 0 ≤ pw % 5 ∧ pw % 5 < 5 := ⟨Int.emod_nonneg _ (by decide), Int.emod_lt_of_pos _ (by decide)⟩
    generalize pw % 5 = mw at hm2 hmr
    have HM2 := Lib.hid hm2
    have hm3 := fun W => mod_any pb 5 (by decide) (by decide) W
    have hmb : 0 ≤ pb % 5 ∧ pb % 5 < 5 := ⟨Int.emod_nonneg _ (by decide), Int.emod_lt_of_pos _ (by decide)⟩
    generalize pb % 5 = mb at hm3 hmb
    have HM3 := Lib.hid hm3
    have d2 : w2.cell? ⟨T, 0, none⟩ = some (.int .i64 (zn : Int)) := by rw [← HCZ.out]; exact st_cell hT0 rfl
    clear hm1 hm2 hm3 hkk F hlive hsm hk0 hk3
    go_upto_region 9 with (first
      | (go_at_call 8; ((with_reducible refine (HM1.out _).mono ?_); rintro r9 w9 ⟨rfl, rfl⟩))
      | (go_at_call 8; ((with_reducible refine (HM2.out _).mono ?_); rintro r9 w9 ⟨rfl, rfl⟩))
      | ((with_reducible refine Plan.load_lit 58 (.tmp 11) T ?_ hT0 Try.underlying58 ?_ ?_ ?_); (· rfl); (· rfl); (· exact st_info); simp only [Act.put, List.setIfInBounds_toArray, List.set_cons_zero, List.set_cons_succ])
      | ((with_reducible refine load_lit_g 58 (.tmp 11) T ?_ ?_ hT3 Try.underlying58 ?_ ?_ ?_); (· rfl); (· rfl); (· rfl); (· exact st_info); simp only [Act.put, List.setIfInBounds_toArray, List.set_cons_zero, List.set_cons_succ])
      | (go_at_call 9; ((with_reducible refine (HAG.out (kk : Int) _ (Below.refl _ _)).mono ?_); rintro r9 w3 ⟨rfl, h3⟩; have hT3 := e_on h3 hT0 (e_lt hT0); clear hT0 d2))
      | (go_at_call 9; ((with_reducible refine (HAG.out pz _ h3).mono ?_); rintro r9 w4 ⟨rfl, h4⟩; have hT4 := e_on h4 hT3 (e_lt hT3); have h5 := h3.trans (h4.mono h3.size); clear hT3 h3 h4)))
    have M4 := M1.on h5
    have hb4 := B1.trans (h5.mono B1.size)
    clear M1 B1 h5 HAG
    rcases five hmr with rfl | rfl | rfl | rfl | rfl
    · have hzi := M4.zonesIn (T := T) (.head _)
      have HODD := Lib.hid (odd_in (fun b => b ≠ T) ⟨S.ds, S.dm, S.da, Z⟩ S.zA S.zN S.zC pb pa pb w4 hzi (fun i z h => by have := HFEW.out i z h; omega) (by omega) (by omega))
      unfold AnyDevF at HODD
      clear hzi
      go_upto_region 17 with (first
        | ((refine load_mid 29 (.tmp 41) T 6 [.int .i64 S.ds, .int .i64 S.dm, .int .i64 S.da, .slice S.zA S.zN S.zC] ?_ hT4 ?_ Try.underlying29 ?_ ?_ ?_); (· rfl); (· rfl); (· rfl); (· exact vd_info); simp only [Act.put, List.setIfInBounds_toArray, List.set_cons_zero, List.set_cons_succ])
        | (go_at_call 10; ((with_reducible refine HODD.out.mono ?_); rintro r9 w5 ⟨D9, za, zk, zc, rfl, hz5, h5, hk9⟩; have hT5 := e_on h5 hT4 (e_lt hT4); have hlT := e_lt hT4; have M5 := M4.on h5; have hb5 := hb4.trans (h5.mono hb4.size); clear hT4 hb4 M4 h5 HODD))
        | ((refine store_mid 29 (.tmp 47) (.tmp 46) T 6 #[.int .i64 D9.size, .int .i64 D9.maxOpen, .int .i64 D9.maxActive, .slice za zk zc] (stArr { S with ds := D9.size, dm := D9.maxOpen, da := D9.maxActive, zA := za, zN := zk, zC := zc }) ?_ ?_ hT5 ?_ ?_ ?_ ?_ ?_); (· rfl); (· rfl); (· show 6 + 4 ≤ 48; decide); (· exact vd_info); (· simp [Value.oneCell']); (· rfl); simp only [Act.put]))
      have hT6 := setRow_heap _ _ _ (stArr { S with ds := D9.size, dm := D9.maxOpen, da := D9.maxActive, zA := za, zN := zk, zC := zc }) _ _ hT5
      have M6 := M5.box (x := T) (.head _) (stArr { S with ds := D9.size, dm := D9.maxOpen, da := D9.maxActive, zA := za, zN := zk, zC := zc })
      have hb6 := below_setRow hb5 hwT (stArr { S with ds := D9.size, dm := D9.maxOpen, da := D9.maxActive, zA := za, zN := zk, zC := zc })
      have hz6 := (hz5.mono (G := fun b => b ≠ T) (fun b _ h => by rcases h with h | h; (· exact h); (· omega))).on (Agree.row (r := T) (fun h => h rfl) (stArr { S with ds := D9.size, dm := D9.maxOpen, da := D9.maxActive, zA := za, zN := zk, zC := zc }))
      have V6 := M6.vlist
      have HAG6 := Lib.hid (vicAgree_any victimOk (fun _ => True) { S with ds := D9.size, dm := D9.maxOpen, da := D9.maxActive, zA := za, zN := zk, zC := zc } D9.zones Cn E (kk : Int) (w5.setRow T (stArr { S with ds := D9.size, dm := D9.maxOpen, da := D9.maxActive, zA := za, zN := zk, zC := zc })) ⟨hz6.mono fun _ _ _ => trivial, V6.c.mono fun _ _ _ => trivial, V6.e.mono fun _ _ _ => trivial⟩ hlo hk9)
      clear V6 M6 M5 hz5 hz6
      generalize World.setRow w5 T _ = w6 at *
      go_wp2_with (first
        | ((with_reducible refine Plan.load_lit 58 (.tmp 11) T ?_ hT6 Try.underlying58 ?_ ?_ ?_); (· rfl); (· rfl); (· exact st_info); simp only [Act.put, List.setIfInBounds_toArray, List.set_cons_zero, List.set_cons_succ])
        | (go_at_call 9; ((with_reducible refine HAG6.out.mono ?_); rintro r9 w7 ⟨rfl, h7⟩; have hb7 := hb6.trans (h7.mono hb6.size)))
        | (go_at_call 6; ((with_reducible refine (HAW.out _).mono ?_); rintro r9 w8 ⟨rfl, h8⟩; have hb8 := hb7.trans (h8.mono hb7.size))))
      go_ret
      exact ⟨rfl, hb8⟩
    · have kcap : (kk : Int) ≤ (S.lC : Int) := by have := (M4.vlist.c.l.cap).1; omega
      have eT : World.setCell w4 ⟨T, 11, none⟩ (.slice S.lA kk S.lC) = w4.setRow T (stArr { S with lN := kk }) := setCell_eq_setRow _ _ _ _ _ _ _ hT4
      have hT6 := setRow_heap _ _ _ (stArr { S with lN := kk }) _ _ hT4
      have M6 := M4.box (x := T) (.head _) (stArr { S with lN := kk })
      have hb6 := below_setRow hb4 hwT (stArr { S with lN := kk })
      have V6 := M6.vlist
      have HAG6 := Lib.hid (vicAgree_any victimOk (fun b => q < b) { S with lN := kk } Z ⟨Cn.live.take kk, Cn.pend⟩ E (kk : Int) (w4.setRow T (stArr { S with lN := kk })) ⟨V6.z, ⟨V6.c.l.upto (k := kk) (show kk ≤ S.lN by omega), V6.c.p⟩, V6.e⟩ (lo_take hlo kk) hN9)
      have c11 := st_cell hT4 (j := 11) rfl
      clear V6 M6 M4
      go_upto_region 17 with (first
        | ((with_reducible refine store_slice_c 22 (.tmp 56) (.tmp 54) T 11 S.lA kk S.lC ?_ ?_ ⟨_, st_cell hT4 rfl⟩ (free_row_c hT4) ints_info1 ?_); (· rfl); (· rfl); simp only [Act.put]; rw [eT]; clear eT; generalize World.setRow w4 T _ = w6 at *))
      go_wp2_with (first
        | ((with_reducible refine Plan.load_lit 58 (.tmp 11) T ?_ hT6 Try.underlying58 ?_ ?_ ?_); (· rfl); (· rfl); (· exact st_info); simp only [Act.put, List.setIfInBounds_toArray, List.set_cons_zero, List.set_cons_succ])
        | (go_at_call 9; ((with_reducible refine HAG6.out.mono ?_); rintro r9 w7 ⟨rfl, h7⟩; have hb7 := hb6.trans (h7.mono hb6.size)))
        | (go_at_call 6; ((with_reducible refine (HAW.out _).mono ?_); rintro r9 w8 ⟨rfl, h8⟩; have hb8 := hb7.trans (h8.mono hb7.size))))
      go_ret
      exact ⟨rfl, hb8⟩
    · have kcap : (kk : Int) ≤ (S.pC : Int) := by have := (M4.vlist.c.p.cap).1; omega
      have eT : World.setCell w4 ⟨T, 12, none⟩ (.slice S.pA kk S.pC) = w4.setRow T (stArr { S with pN := kk }) := setCell_eq_setRow _ _ _ _ _ _ _ hT4
      have hT6 := setRow_heap _ _ _ (stArr { S with pN := kk }) _ _ hT4
      have M6 := M4.box (x := T) (.head _) (stArr { S with pN := kk })
      have hb6 := below_setRow hb4 hwT (stArr { S with pN := kk })
      have V6 := M6.vlist
      have HAG6 := Lib.hid (vicAgree_any victimOk (fun b => q < b) { S with pN := kk } Z ⟨Cn.live, Cn.pend.take kk⟩ E (kk : Int) (w4.setRow T (stArr { S with pN := kk })) ⟨V6.z, ⟨V6.c.l, V6.c.p.upto (k := kk) (show kk ≤ S.pN by omega)⟩, V6.e⟩ hlo hN9)
      have c12 := st_cell hT4 (j := 12) rfl
      clear V6 M6 M4
      go_upto_region 17 with (first
        | ((with_reducible refine store_slice_c 22 (.tmp 65) (.tmp 63) T 12 S.pA kk S.pC ?_ ?_ ⟨_, st_cell hT4 rfl⟩ (free_row_c hT4) ints_info1 ?_); (· rfl); (· rfl); simp only [Act.put]; rw [eT]; clear eT; generalize World.setRow w4 T _ = w6 at *))
      go_wp2_with (first
        | ((with_reducible refine Plan.load_lit 58 (.tmp 11) T ?_ hT6 Try.underlying58 ?_ ?_ ?_); (· rfl); (· rfl); (· exact st_info); simp only [Act.put, List.setIfInBounds_toArray, List.set_cons_zero, List.set_cons_succ])
        | (go_at_call 9; ((with_reducible refine HAG6.out.mono ?_); rintro r9 w7 ⟨rfl, h7⟩; have hb7 := hb6.trans (h7.mono hb6.size)))
        | (go_at_call 6; ((with_reducible refine (HAW.out _).mono ?_); rintro r9 w8 ⟨rfl, h8⟩; have hb8 := hb7.trans (h8.mono hb7.size))))
      go_ret
      exact ⟨rfl, hb8⟩
    · have hw1 : IntKind.i64.wrap (S.cs + mb) = S.cs + mb := IntWalk.i64_in _ (by omega)
      have hw2 : IntKind.i64.wrap (S.cs + mb - 2) = S.cs + mb - 2 := IntWalk.i64_in _ (by omega)
      go_upto_region 16 with fail
      refine Tree.start (fun _ => True) (.take 0 (.take 1 (.take 3 (.fork 2 (.only 4 (.take 5 (.take 6 (.take 7 (.take 8 (.only 9 (.done))))))) 4 (.only 2 (.take 5 (.take 6 (.take 7 (.take 8 (.only 9 (.done))))))))))) (by kernel_rfl) (by kernel_rfl) (by kernel_rfl) (by kernel_rfl) trivial ?_
      simp only [Tree.T.map, List.getElem?_toArray, List.getElem?_cons_zero, List.getElem?_cons_succ]
      repeat (first | (refine Tree.take ?_ (by rfl) ?_ ?_; rotate_left; (· rintro w9 -; go_simp; (try rw [if_neg (by omega)]); all_goals (with_reducible rfl)); simp only [Act.put, List.setIfInBounds_toArray, List.set_cons_zero, List.set_cons_succ]))
      have hT5 := e_on (Below.refl _ _).drew hT4 (e_lt hT4)
      have M5 := M4.on (Below.refl _ _).drew
      have hb5 := hb4.drew
      clear hT4 M4 hb4
      generalize World.drew _ = w5 at *
      have c1 := st_cell hT5 (j := 1) rfl
      refine Tree.fork (by rfl) (by rfl) ?_ ?_
      · refine Tree.wp_make (.int .i64 S.cs) w5 ?_ ⟨trivial, ?_⟩
        · go_simp
        simp only [Act.put, List.setIfInBounds_toArray, List.set_cons_zero, List.set_cons_succ]
        refine Tree.only (by rfl) (Tree.wp_call 8 _ ?_ (HM3.out _) ?_)
        · go_simp
        rintro r9 w9 ⟨rfl, rfl⟩
        refine ⟨_, rfl, trivial, ?_⟩
        simp only [Act.put, List.setIfInBounds_toArray, List.set_cons_zero, List.set_cons_succ]
        repeat (first | (refine Tree.take ?_ (by rfl) ?_ ?_; rotate_left; (· rintro w9 -; go_simp; (try rw [if_neg (by omega)]); all_goals (with_reducible rfl)); simp only [Act.put, List.setIfInBounds_toArray, List.set_cons_zero, List.set_cons_succ]))
        clear c1
        have eT : World.setCell w5 ⟨T, 1, none⟩ (.int .i64 (S.cs + mb - 2)) = w5.setRow T (stArr { S with cs := S.cs + mb - 2 }) := setCell_eq_setRow _ _ _ _ _ _ _ hT5
        refine Tree.only (by rfl) (Put.wp_store_int 3 (.tmp 76) (.tmp 74) rfl T 1 .i64 (S.cs + mb - 2) rfl rfl ⟨_, st_cell hT5 rfl⟩ (free_row_c hT5) Put.int_info1 ?_)
        rw [eT]
        clear eT
        have hT6 := setRow_heap _ _ _ (stArr { S with cs := S.cs + mb - 2 }) _ _ hT5
        have V6 := (M5.box (x := T) (.head _) (stArr { S with cs := S.cs + mb - 2 })).vlist
        have hb6 := below_setRow hb5 hwT (stArr { S with cs := S.cs + mb - 2 })
        have HAG6 := Lib.hid (vicAgree_any victimOk (fun b => q < b) { S with cs := S.cs + mb - 2 } Z Cn E (kk : Int) (w5.setRow T (stArr { S with cs := S.cs + mb - 2 })) ⟨V6.z, V6.c, V6.e⟩ hlo hN9)
        clear V6 M5
        generalize World.setRow w5 T _ = w6 at *
        refine ⟨trivial, ?_⟩
        simp only [Act.put]
        refine Tree.ends ?_
        go_upto_region 17 with fail
        go_wp2_with (first
          | ((with_reducible refine Plan.load_lit 58 (.tmp 11) T ?_ hT6 Try.underlying58 ?_ ?_ ?_); (· rfl); (· rfl); (· exact st_info); simp only [Act.put, List.setIfInBounds_toArray, List.set_cons_zero, List.set_cons_succ])
          | (go_at_call 9; ((with_reducible refine HAG6.out.mono ?_); rintro r9 w7 ⟨rfl, h7⟩; have hb7 := hb6.trans (h7.mono hb6.size)))
          | (go_at_call 6; ((with_reducible refine (HAW.out _).mono ?_); rintro r9 w8 ⟨rfl, h8⟩; have hb8 := hb7.trans (h8.mono hb7.size))))
        go_ret
        exact ⟨rfl, hb8⟩
      · refine Tree.wp_call 8 _ ?_ (HM3.out _) ?_
        · go_simp
        rintro r9 w9 ⟨rfl, rfl⟩
        refine ⟨_, rfl, trivial, ?_⟩
        simp only [Act.put, List.setIfInBounds_toArray, List.set_cons_zero, List.set_cons_succ]
        refine Tree.only (by rfl) (Tree.wp_make (.int .i64 S.cs) w5 ?_ ⟨trivial, ?_⟩)
        · go_simp
        simp only [Act.put, List.setIfInBounds_toArray, List.set_cons_zero, List.set_cons_succ]
        repeat (first | (refine Tree.take ?_ (by rfl) ?_ ?_; rotate_left; (· rintro w9 -; go_simp; (try rw [if_neg (by omega)]); all_goals (with_reducible rfl)); simp only [Act.put, List.setIfInBounds_toArray, List.set_cons_zero, List.set_cons_succ]))
        clear c1
        have eT : World.setCell w5 ⟨T, 1, none⟩ (.int .i64 (S.cs + mb - 2)) = w5.setRow T (stArr { S with cs := S.cs + mb - 2 }) := setCell_eq_setRow _ _ _ _ _ _ _ hT5
        refine Tree.only (by rfl) (Put.wp_store_int 3 (.tmp 76) (.tmp 74) rfl T 1 .i64 (S.cs + mb - 2) rfl rfl ⟨_, st_cell hT5 rfl⟩ (free_row_c hT5) Put.int_info1 ?_)
        rw [eT]
        clear eT
        have hT6 := setRow_heap _ _ _ (stArr { S with cs := S.cs + mb - 2 }) _ _ hT5
        have V6 := (M5.box (x := T) (.head _) (stArr { S with cs := S.cs + mb - 2 })).vlist
        have hb6 := below_setRow hb5 hwT (stArr { S with cs := S.cs + mb - 2 })
        have HAG6 := Lib.hid (vicAgree_any victimOk (fun b => q < b) { S with cs := S.cs + mb - 2 } Z Cn E (kk : Int) (w5.setRow T (stArr { S with cs := S.cs + mb - 2 })) ⟨V6.z, V6.c, V6.e⟩ hlo hN9)
        clear V6 M5
        generalize World.setRow w5 T _ = w6 at *
        refine ⟨trivial, ?_⟩
        simp only [Act.put]
        refine Tree.ends ?_
        go_upto_region 17 with fail
        go_wp2_with (first
          | ((with_reducible refine Plan.load_lit 58 (.tmp 11) T ?_ hT6 Try.underlying58 ?_ ?_ ?_); (· rfl); (· rfl); (· exact st_info); simp only [Act.put, List.setIfInBounds_toArray, List.set_cons_zero, List.set_cons_succ])
          | (go_at_call 9; ((with_reducible refine HAG6.out.mono ?_); rintro r9 w7 ⟨rfl, h7⟩; have hb7 := hb6.trans (h7.mono hb6.size)))
          | (go_at_call 6; ((with_reducible refine (HAW.out _).mono ?_); rintro r9 w8 ⟨rfl, h8⟩; have hb8 := hb7.trans (h8.mono hb7.size))))
        go_ret
        exact ⟨rfl, hb8⟩
    · have eT : World.setCell w4 ⟨T, 19, none⟩ (.int .i64 (kk : Int)) = w4.setRow T (stArr { S with k := (kk : Int) }) := setCell_eq_setRow _ _ _ _ _ _ _ hT4
      have hT6 := setRow_heap _ _ _ (stArr { S with k := (kk : Int) }) _ _ hT4
      have M6 := M4.box (x := T) (.head _) (stArr { S with k := (kk : Int) })
      have hb6 := below_setRow hb4 hwT (stArr { S with k := (kk : Int) })
      have V6 := M6.vlist
      have HAG6 := Lib.hid (vicAgree_any victimOk (fun b => q < b) { S with k := (kk : Int) } Z Cn E (kk : Int) (w4.setRow T (stArr { S with k := (kk : Int) })) ⟨V6.z, V6.c, V6.e⟩ hlo hN9)
      clear V6 M6 M4
      go_upto_region 17 with (first
        | ((with_reducible refine Mk.store_int 3 (.tmp 38) (.tmp 36) T 19 .i64 (kk : Int) ?_ ?_ ⟨_, st_cell hT4 rfl⟩ (free_row_c hT4) Put.int_info1 ?_); (· rfl); (· rfl); simp only [Act.put]; rw [eT]; clear eT; generalize World.setRow w4 T _ = w6 at *))
      go_wp2_with (first
        | ((with_reducible refine Plan.load_lit 58 (.tmp 11) T ?_ hT6 Try.underlying58 ?_ ?_ ?_); (· rfl); (· rfl); (· exact st_info); simp only [Act.put, List.setIfInBounds_toArray, List.set_cons_zero, List.set_cons_succ])
        | (go_at_call 9; ((with_reducible refine HAG6.out.mono ?_); rintro r9 w7 ⟨rfl, h7⟩; have hb7 := hb6.trans (h7.mono hb6.size)))
        | (go_at_call 6; ((with_reducible refine (HAW.out _).mono ?_); rintro r9 w8 ⟨rfl, h8⟩; have hb8 := hb7.trans (h8.mono hb7.size))))
      go_ret
      exact ⟨rfl, hb8⟩
  · rw [decide_eq_false hm] at HLI
    clear hl
    go_enter Try.func3, Try.ntmps3
    go_wp2_with (first
      | (go_at_call 5; ((with_reducible refine (HLI.out _).mono ?_); rintro r9 w9 ⟨rfl, rfl⟩))
      | (go_at_call 6; ((with_reducible refine (HAW.out _).mono ?_); rintro r9 w5 ⟨rfl, h5⟩)))
    go_ret
    exact ⟨rfl, h5⟩
end Go.Proofs.Ythhggiifbldaeaa.Ents

/- The walk of VictimLeast. -/
namespace Go.Proofs.Ythhggiifbldaeaa.VicMath
open ZnsMath CntMath EpoMath
theorem best_step (can : Int → Bool) (L : List Int) (j : Nat) : bestV can L (j + 1) = if can (j : Int) && (!(bestV can L j).2 || decide (L.getD j 0 < L.getD (bestV can L j).1.toNat 0)) then ((j : Int), true) else bestV can L j := rfl
theorem best_least {can : Int → Bool} {L : List Int} : ∀ (n i : Nat), i < n → can (i : Int) = true → (bestV can L n).2 = true ∧ ∃ z : Nat, (bestV can L n).1 = (z : Int) ∧ z < n ∧ can (z : Int) = true ∧ L.getD z 0 ≤ L.getD i 0 ∧ (L.getD z 0 = L.getD i 0 → z ≤ i)
  | 0, _, h, _ => absurd h (Nat.not_lt_zero _)
  | n + 1, i, h, hc => by
    rw [best_step]
    cases hb : (bestV can L n).2
    · have hi : i = n := by
        rcases Nat.lt_or_ge i n with h1 | h1
        · have := (best_least (L := L) n i h1 hc).1
          rw [hb] at this
          cases this
        · omega
      subst hi
      rw [hc]
      exact ⟨rfl, i, rfl, by omega, hc, Int.le_refl _, fun _ => Nat.le_refl _⟩
    · obtain ⟨j, hj, hj1, hj2⟩ := best_in n hb
      rw [hj1, Int.toNat_natCast]
      cases hcn : can (n : Int)
      · simp only [Bool.false_and, Bool.false_eq_true, if_false]
        have hi : i < n := by
          rcases Nat.lt_or_ge i n with h1 | h1
          · exact h1
          · obtain rfl : i = n := by omega
            rw [hc] at hcn
            cases hcn
        obtain ⟨h1, z, h2, h3, h4⟩ := best_least (L := L) n i hi hc
        exact ⟨h1, z, h2, by omega, h4⟩
      · by_cases hl : L.getD n 0 < L.getD j 0
        · rw [decide_eq_true hl]
          refine ⟨rfl, n, rfl, by omega, hcn, ?_⟩
          rcases Nat.lt_or_ge i n with h1 | h1
          · obtain ⟨_, z, h2, h3, h4, h5, h6⟩ := best_least (L := L) n i h1 hc
            rw [hj1] at h2
            have e : j = z := by omega
            subst e
            exact ⟨by omega, fun h7 => by omega⟩
          · obtain rfl : i = n := by omega
            exact ⟨Int.le_refl _, fun _ => Nat.le_refl _⟩
        · rw [decide_eq_false hl]
          simp only [Bool.not_true, Bool.or_self, Bool.and_false, Bool.false_eq_true, if_false]
          refine ⟨hb, j, hj1, by omega, hj2, ?_⟩
          rcases Nat.lt_or_ge i n with h1 | h1
          · obtain ⟨_, z, h2, h3, h4, h5, h6⟩ := best_least (L := L) n i h1 hc
            rw [hj1] at h2
            have e : j = z := by omega
            subst e
            exact ⟨h5, h6⟩
          · obtain rfl : i = n := by omega
            exact ⟨by omega, fun _ => by omega⟩
theorem best_none {can : Int → Bool} {L : List Int} {sz : Int} : ∀ n : Nat, (bestV can L n).2 = false → (bestV can L n).1 = 0 ∧ deadV can L sz n = 0
  | 0, _ => ⟨rfl, rfl⟩
  | n + 1, h => by
    have hc : can (n : Int) = false := by
      cases hc : can (n : Int)
      · rfl
      · have := (best_least (L := L) (n + 1) n (by omega) hc).1
        rw [h] at this
        cases this
    rw [best_skip rfl hc] at h ⊢
    rw [dead_skip hc]
    exact best_none n h
theorem dead_pos {can : Int → Bool} {L : List Int} {sz : Int} : ∀ n : Nat, (∀ i : Nat, i < n → can (i : Int) = true → L.getD i 0 < sz - 1) → 0 ≤ deadV can L sz n ∧ ((bestV can L n).2 = true → 0 < deadV can L sz n)
  | 0, _ => ⟨Int.le_refl _, fun h => by cases h⟩
  | n + 1, h => by
    obtain ⟨h1, h2⟩ := dead_pos n (fun i hi => h i (by omega))
    cases hc : can (n : Int)
    · rw [best_skip rfl hc, dead_skip hc]
      exact ⟨h1, h2⟩
    · have e : deadV can L sz (n + 1) = deadV can L sz n + sz - 1 - L.getD n 0 := by
        have : deadV can L sz (n + 1) = if can (n : Int) then deadV can L sz n + sz - 1 - L.getD n 0 else deadV can L sz n := rfl
        rw [this, if_pos hc]
      have := h n (by omega) hc
      rw [e]
      exact ⟨by omega, fun _ => by omega⟩
theorem can_all {D : Int → Bool} {Z : List Zone} {C : Cnt} {R : List Ret} {h k sz : Int} {i : Nat} {y : Zone} {l p : Int} (hc : canV D Z C R h k sz (i : Int) = true) (hz : Z[i]? = some y) (hl : C.live[i]? = some l) (hp : C.pend[i]? = some p) : y.state = 4 ∧ p = 0 ∧ l < sz - 1 := by
  obtain ⟨hD, h3⟩ := can_fit hc hl
  rw [can_at hD hz hl hp] at hc
  unfold fitV at hc
  simp only [Bool.and_eq_true, decide_eq_true_eq] at hc
  exact ⟨hc.1.1.1.1.1, hc.1.1.1.1.2, h3⟩
end Go.Proofs.Ythhggiifbldaeaa.VicMath
namespace Go.Proofs.Ythhggiifbldaeaa.Ents
open Go.RowKit Plan ZnsMath EntMath CntMath EpoMath LayMath VicMath
set_option maxHeartbeats 16000000 in
set_option maxRecDepth 40000 in
theorem vicLeast_any (a0 : Option Addr) (l c0 : Nat) (zs : List Int) (w : World) (hl : IsRow .i64 w a0 l c0 zs) :
    Calls Try.prog 4 #[.slice a0 l c0] w fun r w' => r = .returned (.bool true) ∧ Below w.heap.size w w' := by
  have HLI := Lib.hid (light_any a0 l c0)
  have HAW := Lib.hid vicAwake_any
  by_cases hm : (l : Int) ≤ 300
  · rw [decide_eq_true hm] at HLI
    have HMD := Lib.hid (made14_any a0 l c0 zs w hl hm)
    unfold MadePost at HMD
    clear hl
    go_enter Try.func4, Try.ntmps4
    go_upto_region 4 with (first
      | (go_at_call 5; ((with_reducible refine (HLI.out _).mono ?_); rintro r9 w9 ⟨rfl, rfl⟩))
      | (go_at_call 7; ((with_reducible refine HMD.out.mono ?_); rintro r9 w1 ⟨q, zn, g, cs, cb, cq, cd, ch, k3, S, Z, Cn, E, CV, rfl, hB, hq, hzn, hcs, hk3, hk0, hsm, M, F⟩; have hZ0 := heap_alloc_new w1 (stRow st0)))
      | ((with_reducible refine Plan.store_lit 58 (.tmp 3) _ w1.heap.size (stArr S) hZ0 ?_ ?_ ?_ ?_ ?_ ?_); rotate_left; (· rfl); (· exact st_info); (· rfl); (· simp [Value.oneCell']); rotate_left; (· rfl); simp only [Act.put]))
    have hT0 := setRow_heap _ _ _ (stArr S) _ _ hZ0
    have M1 := ((M.more (x := w1.heap.size) (Nat.le_refl _)).on ((Below.refl _ _).alloc (Nat.le_refl _) (stRow st0))).box (x := w1.heap.size) (.head _) (stArr S)
    have B1 := below_setRow (hB.alloc hB.size (stRow st0)) hB.size (stArr S)
    have hwT := hB.size
    clear M hB HMD hZ0
    generalize World.setRow (w1.alloc _) w1.heap.size (stArr S) = w2 at *
    generalize w1.heap.size = T at *
    have HV := Lib.hid (fun W (h : Below w2.heap.size w2 W) => (M1.on h).vlist)
    have hzN : S.zN ≤ zn ∧ zn ≤ S.zN := by have := F.dev.2.2.1; omega
    have hzL := F.dev.2.2.2
    have hlN : S.lN ≤ zn ∧ zn ≤ S.lN := by have := F.cnt.1; omega
    have hpN : S.pN ≤ zn ∧ zn ≤ S.pN := by have := F.cnt.2.1; omega
    have hlL : Cn.live.length ≤ zn ∧ zn ≤ Cn.live.length := by have := F.cnt.2.2.1; omega
    have HCZ := Lib.hid F.conf.1
    have hcs2 : S.cs ≤ cs ∧ cs ≤ S.cs := by have := F.conf.2.1; omega
    have hlive := F.live
    have hlo : ∀ (j : Nat) l, Cn.live[j]? = some l → -1000000 ≤ l := fun j l h => by have := (hlive j l h).1; omega
    have HC := Lib.hid (fun (z : Int) W (h : Below w2.heap.size w2 W) => (show Calls Try.prog 12 #[stV S, .int .i64 z] W (fun r w' => r = .returned (.bool (canS S Z Cn E z)) ∧ Below W.heap.size W w') from victimOk.can _ S Z Cn E z W (HV.out W h)))
    have HCH := Lib.hid (victimOk.choose _ S Z Cn E w2 (HV.out w2 (Below.refl _ _)) (by omega))
    have HDE := Lib.hid (fun W (h : Below w2.heap.size w2 W) => victimOk.dead _ S Z Cn E W (HV.out W h) hlo (by omega))
    rw [hzL] at HCH HDE
    clear hzL
    have hlt9 : ∀ i : Nat, i < zn → canS S Z Cn E (i : Int) = true → Cn.live.getD i 0 < S.cs - 1 := fun i hi hc => by
      obtain ⟨l, hl9⟩ : ∃ l, Cn.live[i]? = some l := ⟨_, List.getElem?_eq_getElem (by omega)⟩
      rw [List.getD_eq_getElem?_getD, hl9]
      exact (can_fit hc hl9).2
    have HPOS := (dead_pos zn hlt9).2
    have HNONE := Lib.hid (@best_none (canS S Z Cn E) Cn.live S.cs zn)
    have HBL := Lib.hid (@best_least (canS S Z Cn E) Cn.live zn)
    have HBI := Lib.hid (@best_in (canS S Z Cn E) Cn.live zn)
    have HALL := Lib.hid (fun (i : Nat) y l p (hc : canS S Z Cn E (i : Int) = true) (h1 : Z[i]? = some y) (h2 : Cn.live[i]? = some l) (h3 : Cn.pend[i]? = some p) => can_all hc h1 h2 h3)
    have HPOS := Lib.hid HPOS
    change RowKit.Hid (∀ (i : Nat) y l p, canS S Z Cn E (i : Int) = true → Z[i]? = some y → Cn.live[i]? = some l → Cn.pend[i]? = some p → y.state = 4 ∧ p = 0 ∧ l < S.cs - 1) at HALL
    generalize canS S Z Cn E = can at *
    generalize hb0 : bestV can Cn.live zn = B at *
    obtain ⟨B1v, B2v⟩ := B
    generalize deadV can Cn.live S.cs zn = DV at *
    try simp only at HCH HPOS HNONE HBI
    clear M1 F hlt9 hb0 hlo hsm hk0 hk3
    go_wp2_with (first
      | ((with_reducible refine Plan.load_lit 58 (.tmp 3) T ?_ hT0 Try.underlying58 ?_ ?_ ?_); (· rfl); (· rfl); (· exact st_info); simp only [Act.put, List.setIfInBounds_toArray, List.set_cons_zero, List.set_cons_succ])
      | (go_at_call 11; ((with_reducible refine HCH.out.mono ?_); rintro r9 w3 ⟨rfl, h1⟩; have hT3 := e_on h1 hT0 (e_lt hT0); clear HCH)))
    go_loopw [6] (fun x wr => ∃ i : Nat, x = .int .i64 (i : Int) ∧ i ≤ zn ∧ wr.heap[T]? = some (stRow S) ∧ Below w2.heap.size w2 wr) (fun x _ => zn - (intOf x).toNat)
    case atStart => exact ⟨0, rfl, by omega, hT3, h1⟩
    case round =>
      clear hT0 hT3 h1
      obtain ⟨i, rfl, hi, hT, hb⟩ := hrel
      have d2 : wr.cell? ⟨T, 0, none⟩ = some (.int .i64 (zn : Int)) := by rw [← HCZ.out]; exact st_cell hT rfl
      by_cases hlt : i < zn
      · have hiI : (i : Int) < (zn : Int) := by omega
        have HCJ := Lib.hid (HC.out (i : Int))
        cases hc : can (i : Int)
        · rw [hc] at HCJ
          clear hc
          go_upto_region 8 with fail
          have hF := fun (W : World) (k : W.heap[T]? = some (stRow S)) (_ : Below w2.heap.size w2 W) => k
          refine Plan.start (fun W => W.heap[T]? = some (stRow S)) [(0, true), (1, true), (2, false), (3, true), (4, true), (5, true), (6, true), (7, true), (8, true), (9, true), (10, true), (11, true), (12, true), (13, true), (14, true), (15, true), (16, true), (17, true), (18, true), (19, true), (20, true), (21, true), (22, true), (23, true), (24, true), (25, true), (26, true), (27, true), (28, true), (29, true), (30, true), (31, true), (32, true), (33, true), (34, true), (35, true), (36, true), (37, true), (38, true), (39, true), (40, true), (41, true)] (by kernel_rfl) (by kernel_rfl) (by kernel_rfl) (by kernel_rfl) (hF _ (e_on (Below.refl _ _).drew hT (e_lt hT)) hb.drew) ?_
          simp only [List.map_cons, List.map_nil, List.getElem?_toArray, List.getElem?_cons_zero, List.getElem?_cons_succ]
          refine Plan.take_load 58 (.tmp 3) T _ (by rfl) rfl (by rfl) (fun w9 h9 => h9) Try.underlying58 rfl st_info ?_
          simp only [Act.put, List.setIfInBounds_toArray, List.set_cons_zero, List.set_cons_succ]
          repeat (first | (refine Plan.take ?_ (by rfl) ?_ ?_; rotate_left; (· rintro w9 u0; go_simp; (try rw [if_neg (by omega)]); all_goals (with_reducible rfl)); simp only [Act.put, List.setIfInBounds_toArray, List.set_cons_zero, List.set_cons_succ]) | (refine Plan.pass (by rfl) ?_; simp only [Act.put, List.setIfInBounds_toArray, List.set_cons_zero, List.set_cons_succ]))
          refine Plan.call (by rfl) 12 _ ?_ (HCJ.out _ hb.drew) ?_
          · go_simp
          rintro r9 w4 ⟨rfl, h4⟩
          have hT4 := e_on h4 (e_on (Below.refl _ _).drew hT (e_lt hT)) (e_lt (e_on (Below.refl _ _).drew hT (e_lt hT)))
          have hb4 := hb.drew.trans (h4.mono hb.drew.size)
          refine ⟨_, rfl, hF _ hT4 hb4, ?_⟩
          simp only [Act.put, List.setIfInBounds_toArray, List.set_cons_zero, List.set_cons_succ]
          repeat (first | (refine Plan.take ?_ (by rfl) ?_ ?_; rotate_left; (· rintro w9 u0; go_simp; (try rw [if_neg (by omega)]); all_goals (with_reducible rfl)); simp only [Act.put, List.setIfInBounds_toArray, List.set_cons_zero, List.set_cons_succ]) | (refine Plan.pass (by rfl) ?_; simp only [Act.put, List.setIfInBounds_toArray, List.set_cons_zero, List.set_cons_succ]))
          refine Plan.ends ?_
          clear hF
          go_wp2_with fail
          go_roundw
          case rel => exact ⟨i + 1, by go_num, by omega, hT4, hb4⟩
          case measure => simp [intOf]; omega
        · rw [hc] at HCJ
          obtain ⟨h1, z, h2, h3, h4, h5, h6⟩ := HBL.out i hlt hc
          try simp only at h1 h2
          subst h1 h2
          obtain ⟨xl, lz, hxl, e1, _⟩ := (HV.out wr hb).c.l.at' z (by omega)
          obtain ⟨xl', li, hxl', e2, _⟩ := (HV.out wr hb).c.l.at' i (by omega)
          have HLZ := Lib.hid (fun W (h : Below w2.heap.size w2 W) => (show W.cell? (xl.add z) = some (.int .i64 lz) from by
            obtain ⟨x', z', f1, f2, f3⟩ := (HV.out W h).c.l.at' z (by omega)
            rw [hxl] at f1
            obtain rfl := Option.some.inj f1
            rw [e1] at f2
            obtain rfl := Option.some.inj f2
            exact f3))
          have HLI2 := Lib.hid (fun W (h : Below w2.heap.size w2 W) => (show W.cell? (xl.add i) = some (.int .i64 li) from by
            obtain ⟨x', z', f1, f2, f3⟩ := (HV.out W h).c.l.at' i (by omega)
            rw [hxl] at f1
            obtain rfl := Option.some.inj f1
            rw [e2] at f2
            obtain rfl := Option.some.inj f2
            exact f3))
          rw [List.getD_eq_getElem?_getD, List.getD_eq_getElem?_getD, e1, e2] at h5 h6
          replace h5 : lz ≤ li := h5
          replace h6 : lz = li → z ≤ i := h6
          replace hxl := Lib.hid hxl
          have hziI : (z : Int) < (S.lN : Int) := by omega
          have hiiI : (i : Int) < (S.lN : Int) := by omega
          have g1 : decide (li < lz) = false := by simp; omega
          clear hc e1 e2 hxl' h4
          by_cases hq : lz = li
          · have g2 : (lz == li) = true := by simpa using hq
            have g3 := h6 hq
            have g4 : decide (i < z) = false := by simp; omega
            have g5 : decide ((i : Int) < (z : Int)) = false := by simp; omega
            clear h6 hq
            go_upto_region 8 with fail
            have hF := fun (W : World) (k : W.heap[T]? = some (stRow S)) (k2 : Below w2.heap.size w2 W) => (show W.heap[T]? = some (stRow S) ∧ W.cell? ⟨T, 11, none⟩ = some (.slice (some xl) S.lN S.lC) ∧ W.cell? (xl.add z) = some (.int .i64 lz) ∧ W.cell? (xl.add i) = some (.int .i64 li) from ⟨k, by rw [← hxl.out]; exact st_cell k rfl, HLZ.out W k2, HLI2.out W k2⟩)
            refine Plan.start (fun W => W.heap[T]? = some (stRow S) ∧ W.cell? ⟨T, 11, none⟩ = some (.slice (some xl) S.lN S.lC) ∧ W.cell? (xl.add z) = some (.int .i64 lz) ∧ W.cell? (xl.add i) = some (.int .i64 li)) [(0, true), (1, true), (2, false), (3, true), (4, true), (5, true), (6, true), (7, true), (8, true), (9, true), (10, true), (11, true), (12, true), (13, true), (14, true), (15, true), (16, true), (17, true), (18, true), (19, true), (20, true), (21, true), (22, true), (23, true), (24, true), (25, true), (26, true), (27, true), (28, true), (29, true), (30, true), (31, true), (32, true), (33, true), (34, true), (35, true), (36, true), (37, true), (38, true), (39, true), (40, true), (41, true)] (by kernel_rfl) (by kernel_rfl) (by kernel_rfl) (by kernel_rfl) (hF _ (e_on (Below.refl _ _).drew hT (e_lt hT)) hb.drew) ?_
            simp only [List.map_cons, List.map_nil, List.getElem?_toArray, List.getElem?_cons_zero, List.getElem?_cons_succ]
            refine Plan.take_load 58 (.tmp 3) T _ (by rfl) rfl (by rfl) (fun w9 h9 => h9.1) Try.underlying58 rfl st_info ?_
            simp only [Act.put, List.setIfInBounds_toArray, List.set_cons_zero, List.set_cons_succ]
            repeat (first | (refine Plan.take ?_ (by rfl) ?_ ?_; rotate_left; (· rintro w9 ⟨u0, u1, u2, u3⟩; go_simp; (try rw [if_neg (by omega)]); all_goals (with_reducible rfl)); simp only [Act.put, List.setIfInBounds_toArray, List.set_cons_zero, List.set_cons_succ]) | (refine Plan.pass (by rfl) ?_; simp only [Act.put, List.setIfInBounds_toArray, List.set_cons_zero, List.set_cons_succ]))
            refine Plan.call (by rfl) 12 _ ?_ (HCJ.out _ hb.drew) ?_
            · go_simp
            rintro r9 w4 ⟨rfl, h4⟩
            have hT4 := e_on h4 (e_on (Below.refl _ _).drew hT (e_lt hT)) (e_lt (e_on (Below.refl _ _).drew hT (e_lt hT)))
            have hb4 := hb.drew.trans (h4.mono hb.drew.size)
            refine ⟨_, rfl, hF _ hT4 hb4, ?_⟩
            simp only [Act.put, List.setIfInBounds_toArray, List.set_cons_zero, List.set_cons_succ]
            repeat (first | (refine Plan.take ?_ (by rfl) ?_ ?_; rotate_left; (· rintro w9 ⟨u0, u1, u2, u3⟩; go_simp; (try rw [if_neg (by omega)]); all_goals (with_reducible rfl)); simp only [Act.put, List.setIfInBounds_toArray, List.set_cons_zero, List.set_cons_succ]) | (refine Plan.pass (by rfl) ?_; simp only [Act.put, List.setIfInBounds_toArray, List.set_cons_zero, List.set_cons_succ]))
            refine Plan.ends ?_
            clear hF
            go_wp2_with fail
            go_roundw
            case rel => exact ⟨i + 1, by go_num, by omega, hT4, hb4⟩
            case measure => simp [intOf]; omega
          · have g2 : (lz == li) = false := by simpa using hq
            clear h6 hq
            go_upto_region 8 with fail
            have hF := fun (W : World) (k : W.heap[T]? = some (stRow S)) (k2 : Below w2.heap.size w2 W) => (show W.heap[T]? = some (stRow S) ∧ W.cell? ⟨T, 11, none⟩ = some (.slice (some xl) S.lN S.lC) ∧ W.cell? (xl.add z) = some (.int .i64 lz) ∧ W.cell? (xl.add i) = some (.int .i64 li) from ⟨k, by rw [← hxl.out]; exact st_cell k rfl, HLZ.out W k2, HLI2.out W k2⟩)
            refine Plan.start (fun W => W.heap[T]? = some (stRow S) ∧ W.cell? ⟨T, 11, none⟩ = some (.slice (some xl) S.lN S.lC) ∧ W.cell? (xl.add z) = some (.int .i64 lz) ∧ W.cell? (xl.add i) = some (.int .i64 li)) [(0, true), (1, true), (2, false), (3, true), (4, true), (5, true), (6, true), (7, true), (8, true), (9, true), (10, true), (11, true), (12, true), (13, true), (14, true), (15, true), (16, true), (17, true), (18, true), (19, true), (20, true), (21, true), (22, true), (23, true), (24, true), (25, true), (26, true), (27, true), (28, true), (29, true), (30, true), (31, true), (32, true), (33, true), (34, true), (35, true), (36, true), (37, true), (38, true), (39, true), (40, true), (41, true)] (by kernel_rfl) (by kernel_rfl) (by kernel_rfl) (by kernel_rfl) (hF _ (e_on (Below.refl _ _).drew hT (e_lt hT)) hb.drew) ?_
            simp only [List.map_cons, List.map_nil, List.getElem?_toArray, List.getElem?_cons_zero, List.getElem?_cons_succ]
            refine Plan.take_load 58 (.tmp 3) T _ (by rfl) rfl (by rfl) (fun w9 h9 => h9.1) Try.underlying58 rfl st_info ?_
            simp only [Act.put, List.setIfInBounds_toArray, List.set_cons_zero, List.set_cons_succ]
            repeat (first | (refine Plan.take ?_ (by rfl) ?_ ?_; rotate_left; (· rintro w9 ⟨u0, u1, u2, u3⟩; go_simp; (try rw [if_neg (by omega)]); all_goals (with_reducible rfl)); simp only [Act.put, List.setIfInBounds_toArray, List.set_cons_zero, List.set_cons_succ]) | (refine Plan.pass (by rfl) ?_; simp only [Act.put, List.setIfInBounds_toArray, List.set_cons_zero, List.set_cons_succ]))
            refine Plan.call (by rfl) 12 _ ?_ (HCJ.out _ hb.drew) ?_
            · go_simp
            rintro r9 w4 ⟨rfl, h4⟩
            have hT4 := e_on h4 (e_on (Below.refl _ _).drew hT (e_lt hT)) (e_lt (e_on (Below.refl _ _).drew hT (e_lt hT)))
            have hb4 := hb.drew.trans (h4.mono hb.drew.size)
            refine ⟨_, rfl, hF _ hT4 hb4, ?_⟩
            simp only [Act.put, List.setIfInBounds_toArray, List.set_cons_zero, List.set_cons_succ]
            repeat (first | (refine Plan.take ?_ (by rfl) ?_ ?_; rotate_left; (· rintro w9 ⟨u0, u1, u2, u3⟩; go_simp; (try rw [if_neg (by omega)]); all_goals (with_reducible rfl)); simp only [Act.put, List.setIfInBounds_toArray, List.set_cons_zero, List.set_cons_succ]) | (refine Plan.pass (by rfl) ?_; simp only [Act.put, List.setIfInBounds_toArray, List.set_cons_zero, List.set_cons_succ]))
            refine Plan.ends ?_
            clear hF
            go_wp2_with fail
            go_roundw
            case rel => exact ⟨i + 1, by go_num, by omega, hT4, hb4⟩
            case measure => simp [intOf]; omega
      · obtain rfl : i = zn := by omega
        have hiI : ¬ (i : Int) < (i : Int) := by omega
        cases B2v
        · obtain ⟨h1, h2⟩ := HNONE.out rfl
          subst h1
          rw [h2] at HDE
          go_wp2_with (first
            | ((with_reducible refine load_lit_g 58 (.tmp 3) T ?_ ?_ hT Try.underlying58 ?_ ?_ ?_); (· rfl); (· rfl); (· rfl); (· exact st_info); simp only [Act.put, List.setIfInBounds_toArray, List.set_cons_zero, List.set_cons_succ])
            | (go_at_call 13; ((with_reducible refine (HDE.out _ hb).mono ?_); rintro r9 w4 ⟨rfl, h4⟩; have hb4 := hb.trans (h4.mono hb.size)))
            | (go_at_call 6; ((with_reducible refine (HAW.out _).mono ?_); rintro r9 w5 ⟨rfl, h5⟩; have hb5 := hb4.trans (h5.mono hb4.size))))
          go_ret
          exact ⟨rfl, B1.trans (hb5.mono B1.size)⟩
        · obtain ⟨z, hz1, hz2, hz3⟩ := HBI.out rfl
          try simp only at hz2
          subst hz2
          have HCJ := Lib.hid (HC.out (z : Int))
          rw [hz3] at HCJ
          have hpos := HPOS.out rfl
          obtain ⟨x, y, sa, sl, sc, hxA, hy, _, _, _⟩ := (HV.out wr hb).zone (i := z) (by omega)
          obtain ⟨xl, lz, hxl, e1, _⟩ := (HV.out wr hb).c.l.at' z (by omega)
          obtain ⟨xp, pz, hxp, e2, _⟩ := (HV.out wr hb).c.p.at' z (by omega)
          obtain ⟨s1, s2, s3⟩ := HALL.out z y lz pz hz3 hy e1 e2
          subst s2
          have HCX := Lib.hid (fun W (h : Below w2.heap.size w2 W) => (show W.cell? (x.add (z * 3)) = some (.int .i64 4) from by
            obtain ⟨x', y', _, _, _, f1, f2, f3, _, _⟩ := (HV.out W h).zone (i := z) (by omega)
            rw [hxA] at f1
            obtain rfl := Option.some.inj f1
            rw [hy] at f2
            obtain rfl := Option.some.inj f2
            rw [f3, s1]))
          have HLZ := Lib.hid (fun W (h : Below w2.heap.size w2 W) => (show W.cell? (xl.add z) = some (.int .i64 lz) from by
            obtain ⟨x', z', f1, f2, f3⟩ := (HV.out W h).c.l.at' z (by omega)
            rw [hxl] at f1
            obtain rfl := Option.some.inj f1
            rw [e1] at f2
            obtain rfl := Option.some.inj f2
            exact f3))
          have HCP := Lib.hid (fun W (h : Below w2.heap.size w2 W) => (show W.cell? (xp.add z) = some (.int .i64 0) from by
            obtain ⟨x', z', f1, f2, f3⟩ := (HV.out W h).c.p.at' z (by omega)
            rw [hxp] at f1
            obtain rfl := Option.some.inj f1
            rw [e2] at f2
            obtain rfl := Option.some.inj f2
            exact f3))
          replace hxl := Lib.hid hxl
          replace hxp := Lib.hid hxp
          replace hxA := Lib.hid hxA
          have v1 : (z : Int) < (S.lN : Int) := by omega
          have v2 : (z : Int) < (S.zN : Int) := by omega
          have v3 : (z : Int) < (S.pN : Int) := by omega
          have v4 : (z : Int) < (i : Int) := by omega
          have v5 : IntKind.i64.wrap (S.cs - 1) = S.cs - 1 := IntWalk.i64_in _ (by omega)
          have v6 : (0 : Int) ≤ (z : Int) := by omega
          clear hz1 hz3 hy e1 e2 s1
          go_upto_region 12 with fail
          have hF := fun (W : World) (k : W.heap[T]? = some (stRow S)) (k2 : Below w2.heap.size w2 W) => (show W.heap[T]? = some (stRow S) ∧ W.cell? ⟨T, 0, none⟩ = some (.int .i64 (i : Int)) ∧ W.cell? ⟨T, 1, none⟩ = some (.int .i64 S.cs) ∧ W.cell? ⟨T, 9, none⟩ = some (.slice (some x) S.zN S.zC) ∧ W.cell? ⟨T, 11, none⟩ = some (.slice (some xl) S.lN S.lC) ∧ W.cell? ⟨T, 12, none⟩ = some (.slice (some xp) S.pN S.pC) ∧ W.cell? (x.add (z * 3)) = some (.int .i64 4) ∧ W.cell? (xl.add z) = some (.int .i64 lz) ∧ W.cell? (xp.add z) = some (.int .i64 0) from ⟨k, by rw [← HCZ.out]; exact st_cell k rfl, st_cell k rfl, by rw [← hxA.out]; exact st_cell k rfl, by rw [← hxl.out]; exact st_cell k rfl, by rw [← hxp.out]; exact st_cell k rfl, HCX.out W k2, HLZ.out W k2, HCP.out W k2⟩)
          refine Plan.start (fun W => W.heap[T]? = some (stRow S) ∧ W.cell? ⟨T, 0, none⟩ = some (.int .i64 (i : Int)) ∧ W.cell? ⟨T, 1, none⟩ = some (.int .i64 S.cs) ∧ W.cell? ⟨T, 9, none⟩ = some (.slice (some x) S.zN S.zC) ∧ W.cell? ⟨T, 11, none⟩ = some (.slice (some xl) S.lN S.lC) ∧ W.cell? ⟨T, 12, none⟩ = some (.slice (some xp) S.pN S.pC) ∧ W.cell? (x.add (z * 3)) = some (.int .i64 4) ∧ W.cell? (xl.add z) = some (.int .i64 lz) ∧ W.cell? (xp.add z) = some (.int .i64 0)) [(0, true), (1, true), (2, true), (3, true), (4, true), (5, true), (6, true), (7, true), (8, true), (9, true), (10, true), (11, true), (12, false), (13, true), (14, true), (15, true), (16, true), (17, true), (18, true), (19, true), (20, true), (21, true), (22, true), (23, true), (24, true), (25, true), (26, true), (27, true), (28, true), (29, true), (30, true), (31, true), (32, true), (33, true), (34, true), (35, true), (36, true), (37, true), (38, true), (39, true), (40, true), (41, true), (42, true), (43, true), (44, true), (45, true), (46, true), (47, true), (48, false), (49, true), (50, true), (51, true), (52, false), (53, true), (54, true)] (by kernel_rfl) (by kernel_rfl) (by kernel_rfl) (by kernel_rfl) (hF _ (e_on (Below.refl _ _).drew hT (e_lt hT)) hb.drew) ?_
          simp only [List.map_cons, List.map_nil, List.getElem?_toArray, List.getElem?_cons_zero, List.getElem?_cons_succ]
          repeat (first | (refine Plan.take ?_ (by rfl) ?_ ?_; rotate_left; (· rintro w9 ⟨u0, u1, u2, u3, u4, u5, u6, u7, u8⟩; go_simp; (try rw [if_neg (by omega)]); all_goals (with_reducible rfl)); simp only [Act.put, List.setIfInBounds_toArray, List.set_cons_zero, List.set_cons_succ]) | (refine Plan.pass (by rfl) ?_; simp only [Act.put, List.setIfInBounds_toArray, List.set_cons_zero, List.set_cons_succ]))
          refine Plan.take_load 58 (.tmp 3) T _ (by rfl) rfl (by rfl) (fun w9 h9 => h9.1) Try.underlying58 rfl st_info ?_
          simp only [Act.put, List.setIfInBounds_toArray, List.set_cons_zero, List.set_cons_succ]
          repeat (first | (refine Plan.take ?_ (by rfl) ?_ ?_; rotate_left; (· rintro w9 ⟨u0, u1, u2, u3, u4, u5, u6, u7, u8⟩; go_simp; (try rw [if_neg (by omega)]); all_goals (with_reducible rfl)); simp only [Act.put, List.setIfInBounds_toArray, List.set_cons_zero, List.set_cons_succ]) | (refine Plan.pass (by rfl) ?_; simp only [Act.put, List.setIfInBounds_toArray, List.set_cons_zero, List.set_cons_succ]))
          refine Plan.call (by rfl) 12 _ ?_ (HCJ.out _ hb.drew) ?_
          · go_simp
          rintro r9 w4 ⟨rfl, h4⟩
          have hT4 := e_on h4 (e_on (Below.refl _ _).drew hT (e_lt hT)) (e_lt (e_on (Below.refl _ _).drew hT (e_lt hT)))
          have hb4 := hb.drew.trans (h4.mono hb.drew.size)
          refine ⟨_, rfl, hF _ hT4 hb4, ?_⟩
          simp only [Act.put, List.setIfInBounds_toArray, List.set_cons_zero, List.set_cons_succ]
          repeat (first | (refine Plan.take ?_ (by rfl) ?_ ?_; rotate_left; (· rintro w9 ⟨u0, u1, u2, u3, u4, u5, u6, u7, u8⟩; go_simp; (try rw [if_neg (by omega)]); all_goals (with_reducible rfl)); simp only [Act.put, List.setIfInBounds_toArray, List.set_cons_zero, List.set_cons_succ]) | (refine Plan.pass (by rfl) ?_; simp only [Act.put, List.setIfInBounds_toArray, List.set_cons_zero, List.set_cons_succ]))
          refine Plan.take_load 58 (.tmp 3) T _ (by rfl) rfl (by rfl) (fun w9 h9 => h9.1) Try.underlying58 rfl st_info ?_
          simp only [Act.put, List.setIfInBounds_toArray, List.set_cons_zero, List.set_cons_succ]
          repeat (first | (refine Plan.take ?_ (by rfl) ?_ ?_; rotate_left; (· rintro w9 ⟨u0, u1, u2, u3, u4, u5, u6, u7, u8⟩; go_simp; (try rw [if_neg (by omega)]); all_goals (with_reducible rfl)); simp only [Act.put, List.setIfInBounds_toArray, List.set_cons_zero, List.set_cons_succ]) | (refine Plan.pass (by rfl) ?_; simp only [Act.put, List.setIfInBounds_toArray, List.set_cons_zero, List.set_cons_succ]))
          refine Plan.call (by rfl) 13 _ ?_ (HDE.out _ hb4) ?_
          · go_simp
          rintro r9 w5 ⟨rfl, h5⟩
          have hT5 := e_on h5 hT4 (e_lt hT4)
          have hb5 := hb4.trans (h5.mono hb4.size)
          refine ⟨_, rfl, hF _ hT5 hb5, ?_⟩
          simp only [Act.put, List.setIfInBounds_toArray, List.set_cons_zero, List.set_cons_succ]
          repeat (first | (refine Plan.take ?_ (by rfl) ?_ ?_; rotate_left; (· rintro w9 ⟨u0, u1, u2, u3, u4, u5, u6, u7, u8⟩; go_simp; (try rw [if_neg (by omega)]); all_goals (with_reducible rfl)); simp only [Act.put, List.setIfInBounds_toArray, List.set_cons_zero, List.set_cons_succ]) | (refine Plan.pass (by rfl) ?_; simp only [Act.put, List.setIfInBounds_toArray, List.set_cons_zero, List.set_cons_succ]))
          refine Plan.call (by rfl) 6 _ ?_ (HAW.out _) ?_
          · go_simp
          rintro r9 w6 ⟨rfl, h6⟩
          have hT6 := e_on h6 hT5 (e_lt hT5)
          have hb6 := hb5.trans (h6.mono hb5.size)
          refine ⟨_, rfl, hF _ hT6 hb6, ?_⟩
          simp only [Act.put, List.setIfInBounds_toArray, List.set_cons_zero, List.set_cons_succ]
          repeat (first | (refine Plan.take ?_ (by rfl) ?_ ?_; rotate_left; (· rintro w9 ⟨u0, u1, u2, u3, u4, u5, u6, u7, u8⟩; go_simp; (try rw [if_neg (by omega)]); all_goals (with_reducible rfl)); simp only [Act.put, List.setIfInBounds_toArray, List.set_cons_zero, List.set_cons_succ]) | (refine Plan.pass (by rfl) ?_; simp only [Act.put, List.setIfInBounds_toArray, List.set_cons_zero, List.set_cons_succ]))
          refine Plan.ends ?_
          clear hF
          go_wp2_with fail
          go_ret
          exact ⟨rfl, B1.trans (hb6.mono B1.size)⟩
  · rw [decide_eq_false hm] at HLI
    clear hl
    go_enter Try.func4, Try.ntmps4
    go_wp2_with (first
      | (go_at_call 5; ((with_reducible refine (HLI.out _).mono ?_); rintro r9 w9 ⟨rfl, rfl⟩))
      | (go_at_call 6; ((with_reducible refine (HAW.out _).mono ?_); rintro r9 w5 ⟨rfl, h5⟩)))
    go_ret
    exact ⟨rfl, h5⟩
end Go.Proofs.Ythhggiifbldaeaa.Ents
