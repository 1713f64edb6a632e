/- Texts that belong together, part 15. -/
import Derived.Test.YtlplomofgbmgaaaPack14
import Derived.SliceStrings
import Derived.ChangeArms
import Derived.SizedLaws

/- The walks of the law's same and agree. -/
namespace Go.Proofs.Ytlplomofgbmgaaa
open Go.RowKit Plan ZnsMath MedMath

set_option maxHeartbeats 1000000 in
set_option maxRecDepth 20000 in
theorem same_nums (L : List Int) (g h n : Nat) (w : World) (hl : L.length = n) (hm : n ≤ 35184372088832) (hg : Nums w g L) (hh : Nums w h L) :
    Calls Try.prog 19 #[.slice (some ⟨g, 0, none⟩) n n, .slice (some ⟨h, 0, none⟩) n n] w fun e w' => e = .returned (.bool true) ∧ Below w.heap.size w w' := by
  have hG := fun W (hb : Below w.heap.size w W) (i : Nat) (hi : i < n) => (hg.on hb).2 i (L[i]'(by omega)) (List.getElem?_eq_getElem _)
  have hH := fun W (hb : Below w.heap.size w W) (i : Nat) (hi : i < n) => (hh.on hb).2 i (L[i]'(by omega)) (List.getElem?_eq_getElem _)
  have HG := Lib.hid hG
  have HH := Lib.hid hH
  clear hG hH hg hh
  go_enter Try.func19, Try.ntmps19
  go_wp2_with fail
  go_loopw [5] (fun c wr => ∃ j : Nat, c = .int .i64 j ∧ j ≤ n ∧ Below w.heap.size w wr) (fun c _ => n - (intOf c).toNat)
  case atStart => exact ⟨0, rfl, by omega, Below.refl _ _⟩
  case round =>
    obtain ⟨j, rfl, hj, hb⟩ := hrel
    by_cases hlt : j < n
    · have e1 := HG.out wr hb j hlt
      have e2 := HH.out wr hb j hlt
      have hjI : (j : Int) < (n : Int) := by omega
      generalize L[j]'(by omega) = V at e1 e2
      go_wp2_with fail
      refine Plan.start (fun W => W.cell? ⟨g, j, none⟩ = some (.int .i64 V) ∧ W.cell? ⟨h, j, none⟩ = some (.int .i64 V)) [(0, true), (1, true), (2, true), (3, true), (4, true), (5, true), (6, true), (7, true), (8, true)] (by kernel_rfl) (by kernel_rfl) (by kernel_rfl) (by kernel_rfl) ⟨e1, e2⟩ ?_
      simp only [List.map_cons, List.map_nil, List.getElem?_toArray, List.getElem?_cons_zero, List.getElem?_cons_succ]
      repeat (first | (refine Plan.take ?_ (by rfl) ?_ ?_; rotate_left; (· rintro w9 ⟨u0, u1⟩; go_simp; (try rw [if_neg (by omega)]); all_goals (with_reducible rfl)); simp only [Act.put, List.setIfInBounds_toArray, List.set_cons_zero, List.set_cons_succ]) | (refine Plan.pass (by rfl) ?_; simp only [Act.put, List.setIfInBounds_toArray, List.set_cons_zero, List.set_cons_succ]))
      refine Plan.ends ?_
      have b9 := hb.drew
      go_wp2_with fail
      go_roundw
      case rel => exact ⟨j + 1, by go_num, by omega, b9⟩
      case measure => simp [intOf]; omega
    · obtain rfl : j = n := by omega
      go_wp2_with fail
      go_ret
      exact ⟨rfl, hb⟩
set_option maxHeartbeats 2000000 in
set_option maxRecDepth 20000 in
theorem medAgree_any (D : Dev) (a : Option Addr) (len cap : Nat) (zs : List Int) (ka : Option Addr) (kl kc : Nat) (w : World) (hz : IsZones w a len cap D.zones) (hk : IsRow .i64 w ka kl kc zs) (hm : len ≤ 35184372088832) :
    Calls Try.prog 7 #[devV D a len cap, .slice ka kl kc] w fun e w' => e = .returned (.bool true) ∧ Below w.heap.size w w' := by
  have hzi : ∀ W, Below w.heap.size w W → ZonesIn W (fun b => b < w.heap.size) a len cap D.zones := fun W h => (ZonesIn.of hz).on ⟨h.size, fun b _ hlt => h.block b hlt⟩
  have hlt : ∀ W, Below w.heap.size w W → ∀ b, b < w.heap.size → b < W.heap.size := fun W h b hb => Nat.lt_of_lt_of_le hb h.size
  have pS := fun W (h : Below w.heap.size w W) => sync_any _ D a len cap W (hlt W h) (hzi W h)
  have rS := fun W (h : Below w.heap.size w W) => refSync_any _ D a len cap W (hlt W h) (hzi W h)
  have pC := fun W (h : Below w.heap.size w W) => crash_any _ D a len cap zs _ ka kl kc W (hlt W h) (hzi W h) (row_keep hk h) rfl
  have rC := fun W (h : Below w.heap.size w W) => refCrash_any _ D a len cap zs _ ka kl kc W (hlt W h) (hzi W h) (row_keep hk h) rfl
  have pV := fun W (h : Below w.heap.size w W) => vols_any D a len cap W (hzi W h).is hm
  have rV := fun W (h : Below w.heap.size w W) => refVols_any D a len cap W (hzi W h).is hm
  have hvl : (volL D).length = len := by unfold volL; rw [List.length_map]; exact hz.length
  unfold MedPost DevPost at pS rS pC rC
  unfold VolPost at pV rV
  generalize (if checkE D = 0 then len else 0) = n at *
  generalize checkE D = E at *
  generalize syncR D = R at *
  generalize crashR D (zs.take kl) = T at *
  generalize volL D = VL at *
  obtain ⟨rs, ro, ra, RZ⟩ := R
  obtain ⟨ts, to', ta, TZ⟩ := T
  obtain ⟨size, op, act, Z⟩ := D
  try simp only at pS rS pC rC
  have PS := Lib.hid pS
  have RS := Lib.hid rS
  have PC := Lib.hid pC
  have RC := Lib.hid rC
  have PV := Lib.hid pV
  have RV := Lib.hid rV
  have HM := Lib.hid hm
  clear hzi hlt pS rS pC rC pV rV hz hk
  have x0 := heap_alloc_new w (devRow size op act a len cap)
  have b0 := (Below.refl w.heap.size w).alloc (Nat.le_refl _) (devRow size op act a len cap)
  obtain ⟨y0, d0, d1, d2, d3⟩ := row4 x0
  go_enter Try.func7, Try.ntmps7
  go_wp2_with (first
    | (go_at_call 13; ((with_reducible refine (PS.out _ b0).mono ?_); rintro e w1 ⟨a1, c1, rfl, zn1, hb1⟩; have x1 := row_al (row_on hb1 x0 (lt_of_block x0)) (devRow rs ro ra a1 n c1); have p1_1 := heap_alloc_new w1 (devRow rs ro ra a1 n c1); have z1_1 := zn1.is.on ((Below.refl w1.heap.size w1).alloc (Nat.le_refl _) (devRow rs ro ra a1 n c1)) (Nat.le_refl _); have b1 := (b0.trans (hb1.mono b0.size)).alloc (by have := b0.size; have := hb1.size; omega) (devRow rs ro ra a1 n c1); clear zn1 d0 d1 d2 d3; obtain ⟨y1, d0, d1, d2, d3⟩ := row4 x1))
    | (go_at_call 17; ((with_reducible refine (RS.out _ b1).mono ?_); rintro e w2 ⟨a2, c2, rfl, zn2, hb2⟩; have x2 := row_al (row_on hb2 x1 (lt_of_block x1)) (devRow rs ro ra a2 n c2); have p1_2 := row_al (row_on hb2 p1_1 (lt_of_block p1_1)) (devRow rs ro ra a2 n c2); have z1_2 := (z1_1.on hb2 (Nat.le_refl _)).on ((Below.refl _ _).alloc (Nat.le_refl _) (devRow rs ro ra a2 n c2)) (Nat.le_refl _); have p2_2 := heap_alloc_new w2 (devRow rs ro ra a2 n c2); have z2_2 := zn2.is.on ((Below.refl w2.heap.size w2).alloc (Nat.le_refl _) (devRow rs ro ra a2 n c2)) (Nat.le_refl _); have b2 := (b1.trans (hb2.mono b1.size)).alloc (by have := b1.size; have := hb2.size; omega) (devRow rs ro ra a2 n c2); clear zn2 d0 d1 d2 d3; obtain ⟨y2, d0, d1, d2, d3⟩ := row4 x2))
    | (go_at_call 12; ((with_reducible refine (PC.out _ b2).mono ?_); rintro e w3 ⟨a3, c3, rfl, zn3, hb3⟩; have x3 := row_al (row_on hb3 x2 (lt_of_block x2)) (devRow ts to' ta a3 n c3); have p1_3 := row_al (row_on hb3 p1_2 (lt_of_block p1_2)) (devRow ts to' ta a3 n c3); have z1_3 := (z1_2.on hb3 (Nat.le_refl _)).on ((Below.refl _ _).alloc (Nat.le_refl _) (devRow ts to' ta a3 n c3)) (Nat.le_refl _); have p2_3 := row_al (row_on hb3 p2_2 (lt_of_block p2_2)) (devRow ts to' ta a3 n c3); have z2_3 := (z2_2.on hb3 (Nat.le_refl _)).on ((Below.refl _ _).alloc (Nat.le_refl _) (devRow ts to' ta a3 n c3)) (Nat.le_refl _); have p3_3 := heap_alloc_new w3 (devRow ts to' ta a3 n c3); have z3_3 := zn3.is.on ((Below.refl w3.heap.size w3).alloc (Nat.le_refl _) (devRow ts to' ta a3 n c3)) (Nat.le_refl _); have b3 := (b2.trans (hb3.mono b2.size)).alloc (by have := b2.size; have := hb3.size; omega) (devRow ts to' ta a3 n c3); clear zn3 d0 d1 d2 d3; obtain ⟨y3, d0, d1, d2, d3⟩ := row4 x3))
    | (go_at_call 18; ((with_reducible refine (RC.out _ b3).mono ?_); rintro e w4 ⟨a4, c4, rfl, zn4, hb4⟩; have x4 := row_al (row_on hb4 x3 (lt_of_block x3)) (devRow ts to' ta a4 n c4); have p1_4 := row_al (row_on hb4 p1_3 (lt_of_block p1_3)) (devRow ts to' ta a4 n c4); have z1_4 := (z1_3.on hb4 (Nat.le_refl _)).on ((Below.refl _ _).alloc (Nat.le_refl _) (devRow ts to' ta a4 n c4)) (Nat.le_refl _); have p2_4 := row_al (row_on hb4 p2_3 (lt_of_block p2_3)) (devRow ts to' ta a4 n c4); have z2_4 := (z2_3.on hb4 (Nat.le_refl _)).on ((Below.refl _ _).alloc (Nat.le_refl _) (devRow ts to' ta a4 n c4)) (Nat.le_refl _); have p3_4 := row_al (row_on hb4 p3_3 (lt_of_block p3_3)) (devRow ts to' ta a4 n c4); have z3_4 := (z3_3.on hb4 (Nat.le_refl _)).on ((Below.refl _ _).alloc (Nat.le_refl _) (devRow ts to' ta a4 n c4)) (Nat.le_refl _); have p4_4 := heap_alloc_new w4 (devRow ts to' ta a4 n c4); have z4_4 := zn4.is.on ((Below.refl w4.heap.size w4).alloc (Nat.le_refl _) (devRow ts to' ta a4 n c4)) (Nat.le_refl _); have b4 := (b3.trans (hb4.mono b3.size)).alloc (by have := b3.size; have := hb4.size; omega) (devRow ts to' ta a4 n c4); clear zn4 d0 d1 d2 d3; obtain ⟨y4, d0, d1, d2, d3⟩ := row4 x4)))
  have dr := (Below.refl (w4.alloc (devRow ts to' ta a4 n c4)).heap.size (w4.alloc (devRow ts to' ta a4 n c4))).drew
  have hall : (w4.alloc (devRow ts to' ta a4 n c4)).drew.heap[w.heap.size]? = some (devRow size op act a len cap) ∧ (w4.alloc (devRow ts to' ta a4 n c4)).drew.heap[w1.heap.size]? = some (devRow rs ro ra a1 n c1) ∧ (w4.alloc (devRow ts to' ta a4 n c4)).drew.heap[w2.heap.size]? = some (devRow rs ro ra a2 n c2) ∧ (w4.alloc (devRow ts to' ta a4 n c4)).drew.heap[w3.heap.size]? = some (devRow ts to' ta a3 n c3) ∧ (w4.alloc (devRow ts to' ta a4 n c4)).drew.heap[w4.heap.size]? = some (devRow ts to' ta a4 n c4) ∧ IsZones (w4.alloc (devRow ts to' ta a4 n c4)).drew a1 n c1 RZ ∧ IsZones (w4.alloc (devRow ts to' ta a4 n c4)).drew a2 n c2 RZ ∧ IsZones (w4.alloc (devRow ts to' ta a4 n c4)).drew a3 n c3 TZ ∧ IsZones (w4.alloc (devRow ts to' ta a4 n c4)).drew a4 n c4 TZ ∧ Below w.heap.size w (w4.alloc (devRow ts to' ta a4 n c4)).drew := ⟨x4, p1_4, p2_4, p3_4, p4_4, z1_4.on dr (Nat.le_refl _), z2_4.on dr (Nat.le_refl _), z3_4.on dr (Nat.le_refl _), z4_4.on dr (Nat.le_refl _), b4.drew⟩
  refine Plan.start (fun W => DevAt W w.heap.size size op act a len cap ∧ DevAt W w1.heap.size rs ro ra a1 n c1 ∧ DevAt W w2.heap.size rs ro ra a2 n c2 ∧ DevAt W w3.heap.size ts to' ta a3 n c3 ∧ DevAt W w4.heap.size ts to' ta a4 n c4) [(0, true), (1, true), (2, true), (3, true), (4, true), (5, true), (6, true), (7, true), (8, true), (9, true), (10, true), (11, false), (12, true), (13, true), (14, true), (15, true), (16, false), (17, true), (18, true), (19, true), (21, true), (20, false), (22, false), (23, false), (24, true), (25, true)] (by kernel_rfl) (by kernel_rfl) (by kernel_rfl) (by kernel_rfl) ⟨(row4 hall.1).2, (row4 hall.2.1).2, (row4 hall.2.2.1).2, (row4 hall.2.2.2.1).2, (row4 hall.2.2.2.2.1).2⟩ ?_
  simp only [List.map_cons, List.map_nil, List.getElem?_toArray, List.getElem?_cons_zero, List.getElem?_cons_succ]
  clear x0 x1 x2 x3 x4 b0 b1 b2 b3 b4 d0 d1 d2 d3
  generalize (w4.alloc (devRow ts to' ta a4 n c4)).drew = v0 at hall ⊢
  obtain ⟨x0, p10, p20, p30, p40, z1, z2, z3, z4, b0⟩ := hall
  repeat (first | (refine Plan.take ?_ (by rfl) ?_ ?_; rotate_left; (· rintro w9 ⟨⟨d0, d1, d2, d3⟩, ⟨e0, e1, e2, e3⟩, ⟨f0, f1, f2, f3⟩, ⟨g0, g1, g2, g3⟩, ⟨h0, h1, h2, h3⟩⟩; go_simp; (try rw [if_neg (by omega)]); all_goals (with_reducible rfl)); simp only [Act.put, List.setIfInBounds_toArray, List.set_cons_zero, List.set_cons_succ]) | (refine Plan.pass (by rfl) ?_; simp only [Act.put, List.setIfInBounds_toArray, List.set_cons_zero, List.set_cons_succ]))
  refine Plan.call (by rfl) 15 _ ?_ (refSame_any ⟨rs, ro, ra, RZ⟩ a1 a2 n c1 c2 v0 z1 z2) ?_
  · go_simp
  rintro e v1 ⟨rfl, hv1⟩
  have z3 := z3.on hv1 (Nat.le_refl _)
  have z4 := z4.on hv1 (Nat.le_refl _)
  have x1 := row_on hv1 x0 (lt_of_block x0)
  have p11 := row_on hv1 p10 (lt_of_block p10)
  have p21 := row_on hv1 p20 (lt_of_block p20)
  have p31 := row_on hv1 p30 (lt_of_block p30)
  have p41 := row_on hv1 p40 (lt_of_block p40)
  have b1 := b0.trans (hv1.mono b0.size)
  refine ⟨_, rfl, ⟨(row4 x1).2, (row4 p11).2, (row4 p21).2, (row4 p31).2, (row4 p41).2⟩, ?_⟩
  simp only [Act.put, List.setIfInBounds_toArray, List.set_cons_zero, List.set_cons_succ]
  repeat (first | (refine Plan.take ?_ (by rfl) ?_ ?_; rotate_left; (· rintro w9 ⟨⟨d0, d1, d2, d3⟩, ⟨e0, e1, e2, e3⟩, ⟨f0, f1, f2, f3⟩, ⟨g0, g1, g2, g3⟩, ⟨h0, h1, h2, h3⟩⟩; go_simp; (try rw [if_neg (by omega)]); all_goals (with_reducible rfl)); simp only [Act.put, List.setIfInBounds_toArray, List.set_cons_zero, List.set_cons_succ]) | (refine Plan.pass (by rfl) ?_; simp only [Act.put, List.setIfInBounds_toArray, List.set_cons_zero, List.set_cons_succ]))
  refine Plan.call (by rfl) 15 _ ?_ (refSame_any ⟨ts, to', ta, TZ⟩ a3 a4 n c3 c4 v1 z3 z4) ?_
  · go_simp
  rintro e v2 ⟨rfl, hv2⟩
  have x2 := row_on hv2 x1 (lt_of_block x1)
  have p12 := row_on hv2 p11 (lt_of_block p11)
  have p22 := row_on hv2 p21 (lt_of_block p21)
  have p32 := row_on hv2 p31 (lt_of_block p31)
  have p42 := row_on hv2 p41 (lt_of_block p41)
  have b2 := b1.trans (hv2.mono b1.size)
  refine ⟨_, rfl, ⟨(row4 x2).2, (row4 p12).2, (row4 p22).2, (row4 p32).2, (row4 p42).2⟩, ?_⟩
  simp only [Act.put, List.setIfInBounds_toArray, List.set_cons_zero, List.set_cons_succ]
  repeat (first | (refine Plan.take ?_ (by rfl) ?_ ?_; rotate_left; (· rintro w9 ⟨⟨d0, d1, d2, d3⟩, ⟨e0, e1, e2, e3⟩, ⟨f0, f1, f2, f3⟩, ⟨g0, g1, g2, g3⟩, ⟨h0, h1, h2, h3⟩⟩; go_simp; (try rw [if_neg (by omega)]); all_goals (with_reducible rfl)); simp only [Act.put, List.setIfInBounds_toArray, List.set_cons_zero, List.set_cons_succ]) | (refine Plan.pass (by rfl) ?_; simp only [Act.put, List.setIfInBounds_toArray, List.set_cons_zero, List.set_cons_succ]))
  refine Plan.call (by rfl) 20 _ ?_ (PV.out _ b2) ?_
  · go_simp
  rintro e v3 ⟨g1, rfl, hg1, nm1, hv3⟩
  have x3 := row_on hv3 x2 (lt_of_block x2)
  have p13 := row_on hv3 p12 (lt_of_block p12)
  have p23 := row_on hv3 p22 (lt_of_block p22)
  have p33 := row_on hv3 p32 (lt_of_block p32)
  have p43 := row_on hv3 p42 (lt_of_block p42)
  have b3 := b2.trans (hv3.mono b2.size)
  refine ⟨_, rfl, ⟨(row4 x3).2, (row4 p13).2, (row4 p23).2, (row4 p33).2, (row4 p43).2⟩, ?_⟩
  simp only [Act.put, List.setIfInBounds_toArray, List.set_cons_zero, List.set_cons_succ]
  repeat (first | (refine Plan.take ?_ (by rfl) ?_ ?_; rotate_left; (· rintro w9 ⟨⟨d0, d1, d2, d3⟩, ⟨e0, e1, e2, e3⟩, ⟨f0, f1, f2, f3⟩, ⟨g0, g1, g2, g3⟩, ⟨h0, h1, h2, h3⟩⟩; go_simp; (try rw [if_neg (by omega)]); all_goals (with_reducible rfl)); simp only [Act.put, List.setIfInBounds_toArray, List.set_cons_zero, List.set_cons_succ]) | (refine Plan.pass (by rfl) ?_; simp only [Act.put, List.setIfInBounds_toArray, List.set_cons_zero, List.set_cons_succ]))
  refine Plan.call (by rfl) 21 _ ?_ (RV.out _ b3) ?_
  · go_simp
  rintro e v4 ⟨g2, rfl, hg2, nm2, hv4⟩
  have nm1 := nm1.on hv4
  have x4 := row_on hv4 x3 (lt_of_block x3)
  have p14 := row_on hv4 p13 (lt_of_block p13)
  have p24 := row_on hv4 p23 (lt_of_block p23)
  have p34 := row_on hv4 p33 (lt_of_block p33)
  have p44 := row_on hv4 p43 (lt_of_block p43)
  have b4 := b3.trans (hv4.mono b3.size)
  refine ⟨_, rfl, ⟨(row4 x4).2, (row4 p14).2, (row4 p24).2, (row4 p34).2, (row4 p44).2⟩, ?_⟩
  simp only [Act.put, List.setIfInBounds_toArray, List.set_cons_zero, List.set_cons_succ]
  repeat (first | (refine Plan.take ?_ (by rfl) ?_ ?_; rotate_left; (· rintro w9 ⟨⟨d0, d1, d2, d3⟩, ⟨e0, e1, e2, e3⟩, ⟨f0, f1, f2, f3⟩, ⟨g0, g1, g2, g3⟩, ⟨h0, h1, h2, h3⟩⟩; go_simp; (try rw [if_neg (by omega)]); all_goals (with_reducible rfl)); simp only [Act.put, List.setIfInBounds_toArray, List.set_cons_zero, List.set_cons_succ]) | (refine Plan.pass (by rfl) ?_; simp only [Act.put, List.setIfInBounds_toArray, List.set_cons_zero, List.set_cons_succ]))
  refine Plan.call (by rfl) 19 _ ?_ (same_nums VL g1 g2 len v4 hvl HM.out nm1 nm2) ?_
  · go_simp
  rintro e v5 ⟨rfl, hv5⟩
  have x5 := row_on hv5 x4 (lt_of_block x4)
  have p15 := row_on hv5 p14 (lt_of_block p14)
  have p25 := row_on hv5 p24 (lt_of_block p24)
  have p35 := row_on hv5 p34 (lt_of_block p34)
  have p45 := row_on hv5 p44 (lt_of_block p44)
  have b5 := b4.trans (hv5.mono b4.size)
  refine ⟨_, rfl, ⟨(row4 x5).2, (row4 p15).2, (row4 p25).2, (row4 p35).2, (row4 p45).2⟩, ?_⟩
  simp only [Act.put, List.setIfInBounds_toArray, List.set_cons_zero, List.set_cons_succ]
  repeat (first | (refine Plan.take ?_ (by rfl) ?_ ?_; rotate_left; (· rintro w9 ⟨⟨d0, d1, d2, d3⟩, ⟨e0, e1, e2, e3⟩, ⟨f0, f1, f2, f3⟩, ⟨g0, g1, g2, g3⟩, ⟨h0, h1, h2, h3⟩⟩; go_simp; (try rw [if_neg (by omega)]); all_goals (with_reducible rfl)); simp only [Act.put, List.setIfInBounds_toArray, List.set_cons_zero, List.set_cons_succ]) | (refine Plan.pass (by rfl) ?_; simp only [Act.put, List.setIfInBounds_toArray, List.set_cons_zero, List.set_cons_succ]))
  refine Plan.ends ?_
  go_wp2_with fail
  go_ret
  exact ⟨rfl, b5⟩
end Go.Proofs.Ytlplomofgbmgaaa

/- The walk of the maker's Device for the numbers of the law's sanity check: one append. -/
namespace Go.Proofs.Ytlplomofgbmgaaa
open Go.RowKit Plan ZnsMath

def oneL : List Int := [0, 0, 0, 0, 8, 0, 0, 0, 0]
/-- what the maker's Command leaves, by its dice and device -/
def CmdAt (w : World) (F : Nat → Prop) (base g : Nat) (zs : List Int) (k n : Nat) (P : Nat → Dev → Prop) (e : Ending) (w' : World) : Prop :=
  ∃ (D' : Dev) (a' : Option Addr) (cap' k' : Nat), e = .returned (devV D' a' n cap') ∧ ZonesIn w' (Plus F w.heap.size) a' n cap' D'.zones ∧ P k' D' ∧ k < k' ∧ k' ≤ zs.length ∧ Dice w' base g zs k' ∧ w.grownBy w' (some g)
/-- the device ahead of the append and behind it -/
def OneQ (k : Nat) (D : Dev) : Prop := (k = 3 ∧ D = exD0) ∨ (k = 9 ∧ ∃ s : ByteArray, s.size = 40 ∧ D = exD1 s)
def DevOne (w : World) (e : Ending) (w' : World) : Prop :=
  ∃ (D : Dev) (a : Option Addr) (n cap : Nat), e = .returned (devV D a n cap) ∧ ZonesIn w' (fun b => w.heap.size ≤ b) a n cap D.zones ∧ (∃ s : ByteArray, s.size = 40 ∧ D = exD1 s) ∧ n = 2 ∧ Below w.heap.size w w'
theorem one_valid : checkE exD0 = 0 := by decide
theorem one_size : (⟨(RecMath.encL (mk (madeK oneL (stp oneL (stp oneL (stp oneL 3)))) (nxt oneL (stp oneL (stp oneL (stp oneL 3))) 5) (1 + nxt oneL (stp oneL (stp oneL 3)) 40) 0 (madeP oneL (stp oneL (stp oneL (stp oneL 3)))))).toArray⟩ : ByteArray).size = 40 := by
  have hd := RecMath.enc_length (made_ok oneL (stp oneL (stp oneL (stp oneL 3))) 5 (1 + nxt oneL (stp oneL (stp oneL 3)) 40) (by decide) (by decide) (by decide) (by decide))
  generalize RecMath.encL _ = x at hd ⊢
  simpa [ByteArray.size] using hd
set_option maxHeartbeats 2000000 in
set_option maxRecDepth 20000 in
theorem cmd_append_at (F : Nat → Prop) (D : Dev) (a : Option Addr) (n cap base g : Nat) (zs : List Int) (k : Nat) (w : World) (hF : ∀ b, F b → b < w.heap.size) (hFg : ¬ F g) (hz : ZonesIn w F a n cap D.zones) (hn1 : 1 ≤ n) (hn : n ≤ 1000) (hc : checkE D = 0) (hd : Dice w base g zs k) (hl : zs.length ≤ 100000) (hk : k < zs.length) (hcc : 5 ≤ nxt zs (stp zs k) 9) (hEE : ∀ (i : Nat) (s : ByteArray), nxt zs k (n : Int) = (i : Int) → s = ⟨(RecMath.encL (mk (madeK zs (stp zs (stp zs (stp zs k)))) (nxt zs (stp zs (stp zs (stp zs k))) 5) (1 + nxt zs (stp zs (stp zs k)) 40) 0 (madeP zs (stp zs (stp zs (stp zs k)))))).toArray⟩ → appendE D (i : Int) s = 0) (P : Nat → Dev → Prop) (hP : ∀ (i : Nat) (s : ByteArray), nxt zs k (n : Int) = (i : Int) → s = ⟨(RecMath.encL (mk (madeK zs (stp zs (stp zs (stp zs k)))) (nxt zs (stp zs (stp zs (stp zs k))) 5) (1 + nxt zs (stp zs (stp zs k)) 40) 0 (madeP zs (stp zs (stp zs (stp zs k)))))).toArray⟩ → P (stp3 zs (stp zs (stp zs (stp zs k)))) (appendR D (i : Int) s)) :
    Calls Try.prog 26 #[.pointer (some ⟨g, 0, none⟩), devV D a n cap, .int .i64 (n : Int)] w (CmdAt w F base g zs k n P) := by
  have hgl := dice_lt hd
  have hlen := hz.is.length
  obtain ⟨i, hi, hin⟩ : ∃ i : Nat, nxt zs k (n : Int) = (i : Int) ∧ i < n := by
    have := nxt_range zs k (n : Int) (by omega)
    exact ⟨(nxt zs k (n : Int)).toNat, by omega, by omega⟩
  have hnx1 : ∀ W, Dice W base g zs k → Calls Try.prog 23 #[.pointer (some ⟨g, 0, none⟩), .int .i64 (n : Int)] W (NextPost W base g zs k (n : Int)) := fun W h => next_any W base g zs k n h hl (by omega) (by omega)
  have hnx2 : ∀ W, Dice W base g zs (stp zs k) → Calls Try.prog 23 #[.pointer (some ⟨g, 0, none⟩), .int .i64 9] W (NextPost W base g zs (stp zs k) 9) := fun W h => next_any W base g zs _ 9 h hl (by decide) (by decide)
  have hA : Below w.heap.size w ((w.alloc (devRow D.size D.maxOpen D.maxActive a n cap)).alloc (devRow 0 0 0 none 0 0)) := ((Below.refl _ _).alloc (Nat.le_refl _) _).alloc (by simp) _
  have ZI := Lib.hid hi
  have N1 := Lib.hid hnx1
  have N2 := Lib.hid hnx2
  have HA := Lib.hid hA
  have HZ := Lib.hid hz
  have D0 := Lib.hid (dice_alloc (dice_alloc hd (devRow D.size D.maxOpen D.maxActive a n cap)) (devRow 0 0 0 none 0 0))
  have hk' : k < stp zs (stp zs k) ∧ stp zs (stp zs k) ≤ zs.length := by
    rw [stp_step hk]
    have := stp_ge zs (k + 1)
    have := stp_end (zs := zs) (k := k + 1) (by omega)
    omega
  have HKK := Lib.hid hk'
  have hnx3 : ∀ W, Dice W base g zs (stp zs (stp zs k)) → Calls Try.prog 23 #[.pointer (some ⟨g, 0, none⟩), .int .i64 40] W (NextPost W base g zs (stp zs (stp zs k)) 40) := fun W h => next_any W base g zs _ 40 h hl (by decide) (by decide)
  have hmd : ∀ W v, Dice W base g zs (stp zs (stp zs (stp zs k))) → Calls Try.prog 41 #[.pointer (some ⟨g, 0, none⟩), .int .i64 5, .int .i64 v] W (MadePost W base g zs (stp zs (stp zs (stp zs k))) 5 v) := fun W v h => made_any W base g zs _ 5 v h hl (by decide) (by decide)
  have hsec := fun b W => sector_made (madeK zs (stp zs (stp zs (stp zs k)))) (nxt zs (stp zs (stp zs (stp zs k))) 5) b 0 (madeP zs (stp zs (stp zs (stp zs k)))) W
  have hcr := nxt_range zs (stp zs k) 9 (by decide)
  have hvr := nxt_range zs (stp zs (stp zs k)) 40 (by decide)
  have hee := hEE i _ hi rfl
  have hpp := hP i _ hi rfl
  generalize hcq : nxt zs (stp zs k) 9 = c at *
  unfold MadePost at hmd
  generalize madeK zs (stp zs (stp zs (stp zs k))) = mK at *
  generalize madeP zs (stp zs (stp zs (stp zs k))) = mP at *
  generalize nxt zs (stp zs (stp zs (stp zs k))) 5 = mB at *
  generalize hvq : nxt zs (stp zs (stp zs k)) 40 = v at *
  have hsec1 := hsec (1 + v)
  generalize (⟨(RecMath.encL (mk mK mB (1 + v) 0 mP)).toArray⟩ : ByteArray) = S at *
  clear hsec
  have hwv : IntKind.i64.wrap (1 + v) = 1 + v := by rw [IntKind.wrap_i64]; omega
  have q0 : (c == 0) = false := by simp; omega
  have q1 : (c == 1) = false := by simp; omega
  have q2 : (c == 2) = false := by simp; omega
  have q3 : (c == 3) = false := by simp; omega
  have q4 : (c == 4) = false := by simp; omega
  have hkp := hpp
  have hop : ∀ W, (∀ b, F b → b < W.heap.size) → ZonesIn W F a n cap D.zones → Calls Try.prog 39 #[devV D a n cap, .int .i64 (i : Int), .string S] W fun e w' => ∃ a' cap', e = .returned (.tuple #[devV (appendR D (i : Int) S) a' n cap', .int .i64 (appendO D (i : Int) S), .int .i64 (appendE D (i : Int) S)]) ∧ ZonesIn w' (Plus F W.heap.size) a' n cap' (appendR D (i : Int) S).zones ∧ Below W.heap.size W w' := fun W h1 h2 => refAppend_any F D a n cap i S W h1 h2 (by omega)
  rw [hee] at hop
  generalize appendR D (i : Int) S = R at *
  generalize appendO D (i : Int) S = O at *
  have hk3 : k < stp3 zs (stp zs (stp zs (stp zs k))) ∧ stp3 zs (stp zs (stp zs (stp zs k))) ≤ zs.length := by
    have a1 := stp3_ge zs (stp zs (stp zs (stp zs k)))
    have a2 := stp_ge zs (stp zs (stp zs k))
    exact ⟨by omega, stp3_end (stp_end hk'.2)⟩
  have HO := Lib.hid hop
  have HC := Lib.hid hcq
  have HV := Lib.hid hvq
  have N3 := Lib.hid hnx3
  have HM := Lib.hid hmd
  have HS := Lib.hid hsec1
  have HK3 := Lib.hid hk3
  clear hpp hP hop hnx1 hnx2 hnx3 hmd hsec1 hA hd hi hcc hEE hee hk' hk3 HKK hcq hvq hcr hvr
  unfold CmdAt
  obtain ⟨size, op, act, Z⟩ := D
  obtain ⟨rs, ro, ra, RZ⟩ := R
  go_enter Try.func26, Try.ntmps26
  go_wp2_with (first
    | (go_at_call 23; ((with_reducible refine (N1.out _ D0.out).mono ?_); rintro e w1 ⟨rfl, hd1, hg1, hs1⟩; rw [ZI.out]; have hx1 := row_grown hg1 (heap_first2 w _ _) (by omega); have hr1 := row_grown hg1 (heap_second w _ _) (by omega); have t1 : w1.heap.size = w.heap.size + 1 + 1 := hs1.trans (by simp only [World.size_alloc]); have hv1 : (w1.alloc (devRow size op act a n cap)).heap[w.heap.size + 1 + 1]? = some (devRow size op act a n cap) := (by rw [← t1]; exact heap_alloc_new w1 (devRow size op act a n cap)); have hx1' := row_al hx1 (devRow size op act a n cap); have hr1' := row_al hr1 (devRow size op act a n cap); obtain ⟨y1, d0, d1, d2, d3⟩ := row4 hx1; have hz1 := ((HZ.out.on (Agree.below HA.out)).on (agree_grown hg1 hFg)).on (Agree.below ((Below.refl _ _).alloc (Nat.le_refl _) (devRow size op act a n cap))); have G1 := grownBy_trans (grownBy_trans (below_grown HA.out g) hg1) (World.grownBy_alloc w1 (devRow size op act a n cap) (some g))))
    | (go_at_call 23; ((with_reducible refine (N2.out _ (dice_alloc hd1 _)).mono ?_); rintro e w2 ⟨rfl, hd2, hg2, hs2⟩; rw [HC.out]; have hx2 := row_grown hg2 hx1' (by omega); have hr2 := row_grown hg2 hr1' (by omega); have hv2 := row_grown hg2 hv1 (by omega); obtain ⟨y2, d0, d1, d2, d3⟩ := row4 hx2; have hz2 := hz1.on (agree_grown hg2 hFg); have t2 : w2.heap.size = w1.heap.size + 1 := hs2.trans (World.size_alloc _ _); have G2 := grownBy_trans G1 hg2; have l0 := (row4 hv2).2.1; have l1 := (row4 hv2).2.2.1; have l2 := (row4 hv2).2.2.2.1; have l3 := (row4 hv2).2.2.2.2)))
  refine Plan.start (fun W => DevAt W w.heap.size size op act a n cap) [(0, true), (1, true), (2, true), (3, true), (4, false), (5, true), (6, false), (7, false), (8, false), (9, true), (10, true), (11, true), (12, true), (13, false), (14, true)] (by kernel_rfl) (by kernel_rfl) (by kernel_rfl) (by kernel_rfl) (row4 hx2).2 ?_
  simp only [List.map_cons, List.map_nil, List.getElem?_toArray, List.getElem?_cons_zero, List.getElem?_cons_succ]
  repeat (first | (refine Plan.take ?_ (by rfl) ?_ ?_; rotate_left; (· rintro w9 ⟨e0, e1, e2, e3⟩; go_simp; (try rw [if_neg (by omega)]); all_goals (with_reducible rfl)); simp only [Act.put, List.setIfInBounds_toArray, List.set_cons_zero, List.set_cons_succ]) | (refine Plan.pass (by rfl) ?_; simp only [Act.put, List.setIfInBounds_toArray, List.set_cons_zero, List.set_cons_succ]))
  refine Plan.call (by rfl) 23 _ ?_ (N3.out _ (dice_drew hd2)) ?_
  · go_simp
  rintro e w3 ⟨rfl, hd3, hg3, hs3⟩
  have hg3 := grownBy_trans (grownBy_drew w2 (some g)) hg3
  have hs3 : w3.heap.size = w2.heap.size := hs3
  rw [HV.out]
  have hx3 := row_grown hg3 hx2 (by omega)
  have hr3 := row_grown hg3 hr2 (by omega)
  have hv3 := row_grown hg3 hv2 (by omega)
  have hz3 := hz2.on (agree_grown hg3 hFg)
  have G3 := grownBy_trans G2 hg3
  refine ⟨_, rfl, (row4 hx3).2, ?_⟩
  simp only [Act.put, List.setIfInBounds_toArray, List.set_cons_zero, List.set_cons_succ]
  repeat (first | (refine Plan.take ?_ (by rfl) ?_ ?_; rotate_left; (· rintro w9 ⟨e0, e1, e2, e3⟩; go_simp; (try rw [if_neg (by omega)]); all_goals (with_reducible rfl)); simp only [Act.put, List.setIfInBounds_toArray, List.set_cons_zero, List.set_cons_succ]) | (refine Plan.pass (by rfl) ?_; simp only [Act.put, List.setIfInBounds_toArray, List.set_cons_zero, List.set_cons_succ]))
  refine Plan.call (by rfl) 41 _ ?_ (HM.out _ (1 + v) hd3) ?_
  · go_simp
  rintro e w4 ⟨rfl, hd4, hg4⟩
  have hx4 := row_grown hg4 hx3 (by omega)
  have hr4 := row_grown hg4 hr3 (by omega)
  have hv4 := row_grown hg4 hv3 (by omega)
  have hz4 := hz3.on (agree_grown hg4 hFg)
  have G4 := grownBy_trans G3 hg4
  refine ⟨_, rfl, (row4 hx4).2, ?_⟩
  simp only [Act.put, List.setIfInBounds_toArray, List.set_cons_zero, List.set_cons_succ]
  refine Plan.call (by rfl) 40 _ ?_ (HS.out _) ?_
  · go_simp
  rintro e w5 ⟨rfl, hb5⟩
  have hx5 := row_on hb5 hx4 (lt_of_block hx4)
  have hr5 := row_on hb5 hr4 (lt_of_block hr4)
  have hv5 := row_on hb5 hv4 (lt_of_block hv4)
  have hz5 := hz4.on (Agree.below hb5)
  have hd5 := dice_on hd4 hb5 (Nat.le_refl _)
  have G5 := grownBy_trans G4 (below_grown hb5 g)
  refine ⟨_, rfl, (row4 hx5).2, ?_⟩
  simp only [Act.put, List.setIfInBounds_toArray, List.set_cons_zero, List.set_cons_succ]
  have hlv := lt_of_block hv5
  refine Plan.call (by rfl) 39 _ ?_ (HO.out w5 (fun b hb => by have := hF b hb; omega) hz5) ?_
  · go_simp
  rintro e w6 ⟨a3, c3, rfl, hz6, hb6⟩
  have hx6 := row_on hb6 hx5 (lt_of_block hx5)
  have hr6 := row_on hb6 hr5 (lt_of_block hr5)
  have hv6 := row_on hb6 hv5 (lt_of_block hv5)
  have hd6 := dice_on hd5 hb6 (Nat.le_refl _)
  have G6 := grownBy_trans G5 (below_grown hb6 g)
  refine ⟨_, rfl, (row4 hx6).2, ?_⟩
  simp only [Act.put, List.setIfInBounds_toArray, List.set_cons_zero, List.set_cons_succ]
  repeat (first | (refine Plan.take ?_ (by rfl) ?_ ?_; rotate_left; (· rintro w9 ⟨e0, e1, e2, e3⟩; go_simp; (try rw [if_neg (by omega)]); all_goals (with_reducible rfl)); simp only [Act.put, List.setIfInBounds_toArray, List.set_cons_zero, List.set_cons_succ]) | (refine Plan.pass (by rfl) ?_; simp only [Act.put, List.setIfInBounds_toArray, List.set_cons_zero, List.set_cons_succ]))
  have hv7 := setRow_heap w6 (w.heap.size + 1 + 1) _ #[.int .i64 rs, .int .i64 ro, .int .i64 ra, .slice a3 n c3] _ _ hv6
  have hx7 := (setRow_other w6 (w.heap.size + 1 + 1) w.heap.size #[.int .i64 rs, .int .i64 ro, .int .i64 ra, .slice a3 n c3] (by omega)).trans hx6
  have hr7 := (setRow_other w6 (w.heap.size + 1 + 1) (w.heap.size + 1) #[.int .i64 rs, .int .i64 ro, .int .i64 ra, .slice a3 n c3] (by omega)).trans hr6
  have hz7 := hz6.on (Agree.row (r := (w.heap.size + 1 + 1)) (by rintro (h | h); (· have := hF _ h; omega); (· omega)) #[.int .i64 rs, .int .i64 ro, .int .i64 ra, .slice a3 n c3])
  have hd7 := dice_far hd6 (grownBy_setRow w6 (w.heap.size + 1 + 1) #[.int .i64 rs, .int .i64 ro, .int .i64 ra, .slice a3 n c3]) (by omega)
  have G7 := grownBy_row G6 (x := (w.heap.size + 1 + 1)) (by omega) #[.int .i64 rs, .int .i64 ro, .int .i64 ra, .slice a3 n c3]
  refine Plan.store (by rfl) 24 _ _ rfl (w.heap.size + 1 + 1) #[.int .i64 rs, .int .i64 ro, .int .i64 ra, .slice a3 n c3] (by rfl) (by rfl) 24 _ hv6 dev_info rfl (by simp [Value.oneCell']) (row4 hx7).2 ?_
  simp only [Act.put]
  generalize w6.setRow (w.heap.size + 1 + 1) #[.int .i64 rs, .int .i64 ro, .int .i64 ra, .slice a3 n c3] = w7 at hv7 hx7 hr7 hz7 hd7 G7 ⊢
  repeat (first | (refine Plan.take ?_ (by rfl) ?_ ?_; rotate_left; (· rintro w9 ⟨e0, e1, e2, e3⟩; go_simp; (try rw [if_neg (by omega)]); all_goals (with_reducible rfl)); simp only [Act.put, List.setIfInBounds_toArray, List.set_cons_zero, List.set_cons_succ]) | (refine Plan.pass (by rfl) ?_; simp only [Act.put, List.setIfInBounds_toArray, List.set_cons_zero, List.set_cons_succ]))
  refine Plan.ends ?_
  clear d0 d1 d2 d3 l0 l1 l2 l3
  obtain ⟨y7, d0, d1, d2, d3⟩ := row4 hx7
  obtain ⟨v7, l0, l1, l2, l3⟩ := row4 hv7
  go_wp2_with (first
    | ((with_reducible refine Plan.store_lit 24 (.tmp 6) _ (w.heap.size + 1) ?_ hr7 ?_ ?_ ?_ ?_ ?_ ?_); rotate_left; (· rfl); (· rfl); (· exact dev_info); (· rfl); (· simp [Value.oneCell']); simp only [Act.put]))
  have hz8 := hz7.on (Agree.row (r := w.heap.size + 1) (by rintro (h | h); (· have := hF _ h; omega); (· omega)) #[.int .i64 rs, .int .i64 ro, .int .i64 ra, .slice a3 n c3])
  have n5 := G5.size
  exact bodyPost_ret (results_cell_row rfl _ _ _ _ _ _ _ rfl (setRow_heap _ _ _ _ _ _ hr7) Try.underlying24 rfl dev_info) rfl ⟨⟨rs, ro, ra, RZ⟩, a3, c3, _, rfl, hz8.mono (fun _ _ h => h.imp id (fun h => by omega)), hkp, HK3.out.1, HK3.out.2, dice_far hd7 (grownBy_setRow w7 _ _) (by omega), grownBy_row G7 (by omega) _⟩
set_option maxHeartbeats 2000000 in
set_option maxRecDepth 20000 in
theorem device_one (a : Option Addr) (len cap : Nat) (z : List Int) (w : World) (hrow : IsRow .i64 w a len cap z) (hl : len ≤ 300) (hone : z.take len = oneL) :
    Calls Try.prog 10 #[.slice a len cap] w (DevOne w) := by
  have hA : Below w.heap.size w (w.alloc (devRow 0 0 0 none 0 0)) := (Below.refl _ _).alloc (Nat.le_refl _) _
  have hro := roll_any a len cap z (w.alloc (devRow 0 0 0 none 0 0)) (row_keep hrow hA) hl
  have hzl : (z.take len).length ≤ 300 := by rw [List.length_take]; omega
  obtain ⟨zs, hzs⟩ : ∃ zs, zs = oneL := ⟨_, rfl⟩
  rw [hone, ← hzs] at hro hzl
  have hq1 : nxt zs 0 4 = 0 ∧ nxt zs (stp zs 0) 3 = 0 ∧ nxt zs (stp zs (stp zs 0)) 2 = 0 := by rw [hzs]; decide
  obtain ⟨v1, hv1, hb1⟩ := nxt_nat zs 0 4 (by decide)
  obtain ⟨v2, hv2, hb2⟩ := nxt_nat zs (stp zs 0) 3 (by decide)
  obtain ⟨v3, hv3, hb3⟩ := nxt_nat zs (stp zs (stp zs 0)) 2 (by decide)
  obtain ⟨n, hn⟩ : ∃ n : Nat, 2 + v1 = n := ⟨_, rfl⟩
  obtain ⟨s, hs⟩ : ∃ s : Nat, 3 + v2 = s := ⟨_, rfl⟩
  obtain ⟨o, ho⟩ : ∃ o : Nat, 1 + v3 = o := ⟨_, rfl⟩
  have hw1 : IntKind.i64.wrap (2 + (v1 : Int)) = (n : Int) := by rw [IntKind.wrap_i64]; omega
  have hw2 : IntKind.i64.wrap (3 + (v2 : Int)) = (s : Int) := by rw [IntKind.wrap_i64]; omega
  have hw3 : IntKind.i64.wrap (1 + (v3 : Int)) = (o : Int) := by rw [IntKind.wrap_i64]; omega
  have hne : newE (n : Int) (s : Int) (o : Int) 2 = 0 := by
    rw [newE_eq, if_pos]
    unfold possibleB
    simp only [decide_eq_true_eq]
    omega
  have hnc : checkE ⟨(s : Int), (o : Int), 2, List.replicate n empty⟩ = 0 := by
    have h := hne
    unfold newE newD at h
    rw [if_neg (by omega), Int.toNat_natCast] at h
    exact h
  have hnew : ∀ W, Calls Try.prog 24 #[.int .i64 (n : Int), .int .i64 (s : Int), .int .i64 (o : Int), .int .i64 2] W fun e w' => ∃ a cap, e = .returned (.tuple #[.agg #[.int .i64 (s : Int), .int .i64 (o : Int), .int .i64 2, .slice a n cap], .int .i64 0]) ∧ ZonesIn w' (Plus (fun _ => False) W.heap.size) a n cap (List.replicate n empty) ∧ Below W.heap.size W w' := fun W => by
    have h := refNew_any (n : Int) (s : Int) (o : Int) 2 W
    have hr : newR (n : Int) (s : Int) (o : Int) 2 = ⟨(s : Int), (o : Int), 2, List.replicate n empty⟩ := by
      unfold newR newD
      rw [if_pos hne, Int.toNat_natCast]
    rw [hr, hne, if_pos rfl, Int.toNat_natCast] at h
    exact h
  have hv1 : nxt zs 0 4 = (v1 : Int) := by simpa using hv1
  have hv2 : nxt zs (stp zs 0) 3 = (v2 : Int) := by simpa using hv2
  have hv3 : nxt zs (stp zs (stp zs 0)) 2 = (v3 : Int) := by simpa using hv3
  have hN : ∀ W base g k (m : Int), Dice W base g zs k → 1 ≤ m → m ≤ 1000 → Calls Try.prog 23 #[.pointer (some ⟨g, 0, none⟩), .int .i64 m] W (NextPost W base g zs k m) := fun W base g k m h h1 h2 => next_any W base g zs k m h (by omega) (by omega) (by omega)
  have hnso : n = 2 ∧ s = 3 ∧ o = 1 := by omega
  have HNSO := Lib.hid hnso
  have hn25 : 2 ≤ n ∧ n ≤ 5 := by omega
  have hst0 : stp3 zs 0 = 3 := by rw [hzs]; decide
  have HST0 := Lib.hid hst0
  have HZS := Lib.hid hzs
  clear hq1 hnso hst0 hone hzs
  have HR := Lib.hid hro
  have HN := Lib.hid hN
  have HW := Lib.hid hnew
  have HV1 := Lib.hid hv1
  have HV2 := Lib.hid hv2
  have HV3 := Lib.hid hv3
  have HC := Lib.hid hnc
  have HA := Lib.hid hA
  clear hro hN hnew hv1 hv2 hv3 hnc hA hne hrow hn hs ho hb1 hb2 hb3
  unfold DevOne
  go_enter Try.func10, Try.ntmps10
  go_wp2_with (first
    | (go_at_call 22; ((with_reducible refine HR.out.mono ?_); rintro e w1 ⟨g, rfl, hd1, hb1⟩; have hg0 : w.heap.size < g := (by have h := dice_base hd1; rw [World.size_alloc] at h; omega); have hr1 := row_on hb1 (heap_alloc_new w _) (by simp); have b1 := HA.out.trans (hb1.mono (by simp))))
    | (go_at_call 23; ((with_reducible refine (HN.out _ _ g 0 4 hd1 (by decide) (by decide)).mono ?_); rintro e w2 ⟨rfl, hd2, hg2, hs2⟩; rw [HV1.out]; have hr2 := row_grown hg2 hr1 (by omega); have b2 := below_of_grown b1 hg2 (by omega) b1.size))
    | (go_at_call 23; ((with_reducible refine (HN.out _ _ g (stp zs 0) 3 hd2 (by decide) (by decide)).mono ?_); rintro e w3 ⟨rfl, hd3, hg3, hs3⟩; rw [HV2.out]; have hr3 := row_grown hg3 hr2 (by omega); have b3 := below_of_grown b2 hg3 (by omega) b2.size))
    | (go_at_call 23; ((with_reducible refine (HN.out _ _ g (stp zs (stp zs 0)) 2 hd3 (by decide) (by decide)).mono ?_); rintro e w4 ⟨rfl, hd4, hg4, hs4⟩; rw [HV3.out]; have hr4 := row_grown hg4 hr3 (by omega); have b4 := below_of_grown b3 hg4 (by omega) b3.size))
    | (go_at_call 24; ((with_reducible refine (HW.out _).mono ?_); rintro e w5 ⟨a5, c5, rfl, hz5, hb5⟩; have hr5 := row_al (row_on hb5 hr4 (lt_of_block hr4)) (devRow (s : Int) (o : Int) 2 a5 n c5); have hx5 := heap_alloc_new w5 (devRow (s : Int) (o : Int) 2 a5 n c5); have b5 := b4.trans (hb5.mono b4.size); have b5' := b5.alloc b5.size (devRow (s : Int) (o : Int) 2 a5 n c5); have hd5 := dice_alloc (dice_on hd4 hb5 (Nat.le_refl _)) (devRow (s : Int) (o : Int) 2 a5 n c5); have hg5 := dice_lt (dice_on hd4 hb5 (Nat.le_refl _)); have hg4' := dice_lt hd4; have n4 := lt_of_block hr4; have hz5' := hz5.cut.on (Agree.below ((Below.refl _ _).alloc (Nat.le_refl _) (devRow (s : Int) (o : Int) 2 a5 n c5))))))
  obtain ⟨X, hX⟩ : ∃ X, X = w5.heap.size := ⟨_, rfl⟩
  rw [← hX] at hx5
  have hzl0 : 0 ≤ zs.length := Nat.zero_le _
  have hst3 : stp3 zs 0 ≤ zs.length := stp3_end hzl0
  have hXg : g < X := by omega
  have hXw : w.heap.size < X := by omega
  have hcmd : ∀ F D a cap k W, (∀ b, F b → b < W.heap.size) → ¬ F g → ZonesIn W F a n cap D.zones → OneQ k D → Dice W (w.alloc (devRow 0 0 0 none 0 0)).heap.size g zs k → k < zs.length → Calls Try.prog 26 #[.pointer (some ⟨g, 0, none⟩), .agg #[.int .i64 D.size, .int .i64 D.maxOpen, .int .i64 D.maxActive, .slice a n cap], .int .i64 (n : Int)] W (CmdAt W F (w.alloc (devRow 0 0 0 none 0 0)).heap.size g zs k n OneQ) := fun F D a cap k W h1 h2 h3 h4 h5 h6 => by
    have hzs := HZS.out
    have hl9 : zs.length = 9 := by rw [hzs]; rfl
    rcases h4 with ⟨rfl, rfl⟩ | ⟨rfl, -⟩
    · obtain ⟨rfl, -, -⟩ := HNSO.out
      have hsz := one_size
      refine cmd_append_at F exD0 a 2 cap _ g zs 3 W h1 h2 h3 (by decide) (by decide) one_valid h5 (by omega) h6 (by rw [hzs]; decide) (fun i s hi hs => ?_) OneQ (fun i s hi hs => ?_)
      · obtain rfl : i = 0 := by rw [hzs] at hi; have : nxt oneL 3 ((2 : Nat) : Int) = 0 := by decide
                                 omega
        subst hzs
        exact (ex_one (S := s) (by rw [hs]; exact hsz)).1
      · obtain rfl : i = 0 := by rw [hzs] at hi; have : nxt oneL 3 ((2 : Nat) : Int) = 0 := by decide
                                 omega
        subst hzs
        have h40 : s.size = 40 := by rw [hs]; exact hsz
        exact .inr ⟨by decide, s, h40, (ex_one h40).2.2⟩
    · omega
  unfold CmdAt at hcmd
  have HCM := Lib.hid hcmd
  have hrs : ∀ k W M, Dice W (w.alloc (devRow 0 0 0 none 0 0)).heap.size g zs k → k ≤ zs.length → zs.length - k = M → Calls Try.prog 25 #[.pointer (some ⟨g, 0, none⟩)] W fun e w' => e = .returned (.int .i64 (M : Int)) ∧ Dice w' (w.alloc (devRow 0 0 0 none 0 0)).heap.size g zs k ∧ W.grownBy w' (some g) ∧ w'.heap.size = W.heap.size := fun k W M h1 h2 h3 => by
    have := rest_any W _ g zs k h1 (by omega) h2
    rw [h3] at this
    exact this
  have HRS := Lib.hid hrs
  clear hcmd hrs
  rw [← hX]
  have HX := Lib.hid hX
  clear hX
  generalize hW5 : w5.alloc (devRow (s : Int) (o : Int) 2 a5 n c5) = w6 at *
  go_loopw [] (fun wr => ∃ (k : Nat) (D : Dev) (a : Option Addr) (cap : Nat), k ≤ zs.length ∧ Dice wr (w.alloc (devRow 0 0 0 none 0 0)).heap.size g zs k ∧ wr.heap[X]? = some (devRow D.size D.maxOpen D.maxActive a n cap) ∧ wr.heap[w.heap.size]? = some (devRow 0 0 0 none 0 0) ∧ ZonesIn wr (fun b => w.heap.size ≤ b ∧ b < wr.heap.size ∧ b ≠ g ∧ b ≠ X ∧ b ≠ w.heap.size) a n cap D.zones ∧ OneQ k D ∧ Below w.heap.size w wr) (fun wr => zs.length - (intOf ((wr.cell? ⟨g, 1, none⟩).getD undef)).toNat)
  case atStart =>
    refine ⟨_, ⟨(s : Int), (o : Int), 2, List.replicate n empty⟩, a5, c5, hst3, hd5, hx5, hr5, hz5'.mono ?_, .inl ⟨HST0.out, by obtain ⟨rfl, rfl, rfl⟩ := HNSO.out; rfl⟩, b5'⟩
    rintro b hb ⟨h | h, h2⟩
    · exact h.elim
    · have hX := HX.out
      exact ⟨by omega, hb, by omega, by omega, by omega⟩
  case round =>
    obtain ⟨k, D, a, cap, hk, hdd, hx, hr, hz, hc, hb⟩ := hrel
    obtain ⟨ds, do', da, DZ⟩ := D
    try simp only at hx hz
    have hgl := dice_lt hdd
    have hgr := lt_of_block hx
    by_cases hlt : k < zs.length
    · obtain ⟨M, hM⟩ : ∃ M, zs.length - k = M := ⟨_, rfl⟩
      have hM0 : 0 < M := by omega
      have hM1 : (0 : Int) < (M : Int) := by omega
      have hcell := dice_cell hdd
      have HM := Lib.hid hM
      clear hM
      go_wp2_with (first
        | (go_at_call 25; ((with_reducible refine (HRS.out k _ M hdd hk HM.out).mono ?_); rintro e w7 ⟨rfl, hd7, hg7, hs7⟩; have hx7 := row_grown hg7 hx (by omega); have hr7 := row_grown hg7 hr (by omega); have hz7 := hz.on (agree_grown hg7 (fun h => h.2.2.1 rfl)); have b7 := below_of_grown hb hg7 (by omega) hb.size; obtain ⟨y7, d0, d1, d2, d3⟩ := row4 hx7))
        | (go_at_call 26; have hFb : ∀ b, (fun b => w.heap.size ≤ b ∧ b < wr.heap.size ∧ b ≠ g ∧ b ≠ X ∧ b ≠ w.heap.size) b → b < w7.heap.size := (fun b h => by have := h.2.1; omega); have hFg : ¬ (fun b => w.heap.size ≤ b ∧ b < wr.heap.size ∧ b ≠ g ∧ b ≠ X ∧ b ≠ w.heap.size) g := (fun h => h.2.2.1 rfl); ((with_reducible refine (HCM.out (fun b => w.heap.size ≤ b ∧ b < wr.heap.size ∧ b ≠ g ∧ b ≠ X ∧ b ≠ w.heap.size) ⟨ds, do', da, DZ⟩ a cap k w7 hFb hFg hz7 hc hd7 hlt).mono ?_); rintro e w8 ⟨⟨es, eo, ea, EZ⟩, a8, cap8, k8, rfl, hz8, hc8, hk8, hk8', hd8, hg8⟩; have hx8 := row_grown hg8 hx7 (by omega); have hr8 := row_grown hg8 hr7 (by omega); have b8 := below_of_grown b7 hg8 (by omega) b7.size; have n8 := lt_of_block hx8))
        | ((with_reducible refine Plan.store_lit 24 (.tmp 5) _ X ?_ hx8 ?_ ?_ ?_ ?_ ?_ ?_); rotate_left; (· rfl); (· rfl); (· exact dev_info); (· rfl); (· simp [Value.oneCell']); simp only [Act.put]))
      have hd9 := dice_far hd8 (grownBy_setRow w8 X #[.int .i64 es, .int .i64 eo, .int .i64 ea, .slice a8 n cap8]) hXg
      have hz9 := hz8.on (Agree.row (r := X) (by rintro (h | h); (· exact h.2.2.2.1 rfl); (· omega)) #[.int .i64 es, .int .i64 eo, .int .i64 ea, .slice a8 n cap8])
      have hr9 := (setRow_other w8 X w.heap.size #[.int .i64 es, .int .i64 eo, .int .i64 ea, .slice a8 n cap8] (by omega)).trans hr8
      have b9 := below_setRow b8 (show w.heap.size ≤ X by omega) #[.int .i64 es, .int .i64 eo, .int .i64 ea, .slice a8 n cap8]
      have hx9 := setRow_heap w8 X _ #[.int .i64 es, .int .i64 eo, .int .i64 ea, .slice a8 n cap8] _ _ hx8
      have hcell9 := dice_cell hd9
      have n7 := b7.size
      go_roundw
      case rel =>
        refine ⟨k8, ⟨es, eo, ea, EZ⟩, a8, cap8, hk8', hd9, hx9, hr9, hz9.mono ?_, hc8, b9⟩
        rintro b hb9 (h | h)
        · exact ⟨h.1, hb9, h.2.2.1, h.2.2.2.1, h.2.2.2.2⟩
        · exact ⟨by omega, hb9, by omega, by omega, by omega⟩
      case measure =>
        rw [hcell9, hcell]
        simp [intOf]
        omega
    · obtain rfl : k = zs.length := by omega
      have hM : zs.length - zs.length = 0 := Nat.sub_self _
      have HM := Lib.hid hM
      clear hM
      go_wp2_with (first
        | (go_at_call 25; ((with_reducible refine (HRS.out zs.length _ 0 hdd hk HM.out).mono ?_); rintro e w7 ⟨rfl, hd7, hg7, hs7⟩; have hx7 := row_grown hg7 hx (by omega); have hr7 := row_grown hg7 hr (by omega); have hz7 := hz.on (agree_grown hg7 (fun h => h.2.2.1 rfl)); have b7 := below_of_grown hb hg7 (by omega) hb.size; obtain ⟨y7, d0, d1, d2, d3⟩ := row4 hx7))
        | ((with_reducible refine Plan.store_lit 24 (.tmp 2) _ w.heap.size ?_ hr7 ?_ ?_ ?_ ?_ ?_ ?_); rotate_left; (· rfl); (· rfl); (· exact dev_info); (· rfl); (· simp [Value.oneCell']); simp only [Act.put]))
      have b8 := below_setRow b7 (Nat.le_refl _) #[.int .i64 ds, .int .i64 do', .int .i64 da, .slice a n cap]
      have hz8 := hz7.on (Agree.row (r := w.heap.size) (fun h => h.2.2.2.2 rfl) #[.int .i64 ds, .int .i64 do', .int .i64 da, .slice a n cap])
      exact bodyPost_ret (results_cell_row rfl _ _ _ _ _ _ _ rfl (setRow_heap _ _ _ _ _ _ hr7) Try.underlying24 rfl dev_info) rfl ⟨⟨ds, do', da, DZ⟩, a, n, cap, rfl, hz8.mono (fun _ _ h => h.1), (hc.resolve_left (fun h => by rw [HZS.out] at h; exact absurd h.1 (by decide))).2, HNSO.out.1, b8⟩
end Go.Proofs.Ytlplomofgbmgaaa

/- The walk of the law's sanity check. -/
namespace Go.Proofs.Ytlplomofgbmgaaa
open Go.RowKit Plan ZnsMath MedMath

def exA : Dev := ⟨3, 1, 2, [⟨0, 0, []⟩, ⟨0, 0, []⟩]⟩
def exS (S : ByteArray) : Dev := ⟨3, 1, 2, [⟨1, 1, [S]⟩, ⟨0, 0, []⟩]⟩
def exC (S : ByteArray) : Dev := ⟨3, 1, 2, [⟨3, 1, [S]⟩, ⟨0, 0, []⟩]⟩
theorem ex_crash {S : ByteArray} (h : S.size = 40) : crashR (exD1 S) [] = exA := by
  unfold crashR
  rw [if_pos (ex_check1 h)]
  kernel_rfl
theorem ex_sync {S : ByteArray} (h : S.size = 40) : syncR (exD1 S) = exS S := by
  unfold syncR
  rw [if_pos (ex_check1 h)]
  rfl
theorem ex_checkS {S : ByteArray} (h : S.size = 40) : checkE (exS S) = 0 := dur_valid (ex_check1 h)
theorem ex_crashS {S : ByteArray} (h : S.size = 40) : crashR (exS S) [] = exC S := by
  unfold crashR
  rw [if_pos (ex_checkS h)]
  kernel_rfl
theorem first_zone {w : World} {a : Option Addr} {n cap : Nat} {z : Zone} {Z : List Zone} (h : IsZones w a n cap (z :: Z)) : ∃ x sa sc, a = some x ∧ w.cell? x = some (.int .i64 z.state) ∧ w.cell? ⟨x.block, x.off + 1, none⟩ = some (.int .i64 z.durable) ∧ w.cell? ⟨x.block, x.off + 2, none⟩ = some (.slice sa z.sectors.length sc) := by
  have hl := h.length
  obtain ⟨x, y, sa, sl, sc, hx, hy, ⟨c0, c1, c2⟩, hs⟩ := h.zone 0 (by rw [← hl]; exact Nat.succ_pos _)
  obtain rfl := Option.some.inj hy
  have e : x.add (0 * 3) = x := by simp [Addr.add]
  rw [e] at c0 c1 c2
  rw [← hs.length] at c2
  exact ⟨x, sa, sc, hx, c0, c1, c2⟩
theorem one_row (w : World) : IsRow .i64 (w.alloc (.cells #[.int .i64 0, .int .i64 0, .int .i64 0, .int .i64 0, .int .i64 8, .int .i64 0, .int .i64 0, .int .i64 0, .int .i64 0] 3)) (some ⟨w.heap.size, 0, none⟩) 9 9 oneL := by
  refine .inr ⟨_, rfl, Nat.le_refl _, by unfold maxLen; decide, rfl, fun i hi => ?_, by decide⟩
  have hi9 : i < 9 := hi
  rw [add_lit0]
  rcases (by omega : i = 0 ∨ i = 1 ∨ i = 2 ∨ i = 3 ∨ i = 4 ∨ i = 5 ∨ i = 6 ∨ i = 7 ∨ i = 8) with rfl | rfl | rfl | rfl | rfl | rfl | rfl | rfl | rfl
  all_goals exact cell_of_row _ _ _ _ _ _ (heap_alloc_new w _)
theorem one_dev (w : World) : Calls Try.prog 10 #[.slice (some ⟨w.heap.size, 0, none⟩) 9 9] (w.alloc (.cells #[.int .i64 0, .int .i64 0, .int .i64 0, .int .i64 0, .int .i64 8, .int .i64 0, .int .i64 0, .int .i64 0, .int .i64 0] 3)) fun e w' => ∃ s a cap, s.size = 40 ∧ e = .returned (.agg #[.int .i64 3, .int .i64 1, .int .i64 2, .slice a 2 cap]) ∧ ZonesIn w' (fun b => (w.alloc (.cells #[.int .i64 0, .int .i64 0, .int .i64 0, .int .i64 0, .int .i64 8, .int .i64 0, .int .i64 0, .int .i64 0, .int .i64 0] 3)).heap.size ≤ b) a 2 cap (exD1 s).zones ∧ Below (w.alloc (.cells #[.int .i64 0, .int .i64 0, .int .i64 0, .int .i64 0, .int .i64 8, .int .i64 0, .int .i64 0, .int .i64 0, .int .i64 0] 3)).heap.size (w.alloc (.cells #[.int .i64 0, .int .i64 0, .int .i64 0, .int .i64 0, .int .i64 8, .int .i64 0, .int .i64 0, .int .i64 0, .int .i64 0] 3)) w' := by
  have hdev0 := device_one _ 9 9 oneL _ (one_row w) (by decide) rfl
  unfold DevOne at hdev0
  generalize (w.alloc (.cells #[.int .i64 0, .int .i64 0, .int .i64 0, .int .i64 0, .int .i64 8, .int .i64 0, .int .i64 0, .int .i64 0, .int .i64 0] 3)) = W0 at hdev0 ⊢
  refine hdev0.mono ?_
  rintro e w' ⟨D, a, n, cap, rfl, hz, ⟨s, hs, rfl⟩, rfl, hb⟩
  exact ⟨s, a, cap, hs, rfl, hz, hb⟩
theorem one_c1 : ∀ s : ByteArray, s.size = 40 → ∀ (F : Nat → Prop) a cap W, (∀ b, F b → b < W.heap.size) → ZonesIn W F a 2 cap (exD1 s).zones → Calls Try.prog 12 #[.agg #[.int .i64 3, .int .i64 1, .int .i64 2, .slice a 2 cap], .slice none 0 0] W fun e w' => ∃ a' cap', e = .returned (.tuple #[.agg #[.int .i64 3, .int .i64 1, .int .i64 2, .slice a' 2 cap'], .int .i64 0]) ∧ ZonesIn w' (Plus F W.heap.size) a' 2 cap' exA.zones ∧ Below W.heap.size W w' := fun s hs F a cap W hF hz => by
    have := crash_any F (exD1 s) a 2 cap [] [] none 0 0 W hF hz (.inl ⟨rfl, rfl, rfl, rfl⟩) rfl
    unfold MedPost DevPost at this
    rw [ex_crash hs, ex_check1 hs, if_pos rfl] at this
    exact this
theorem one_s1 : ∀ s : ByteArray, s.size = 40 → ∀ (F : Nat → Prop) a cap W, (∀ b, F b → b < W.heap.size) → ZonesIn W F a 2 cap (exD1 s).zones → Calls Try.prog 13 #[.agg #[.int .i64 3, .int .i64 1, .int .i64 2, .slice a 2 cap]] W fun e w' => ∃ a' cap', e = .returned (.tuple #[.agg #[.int .i64 3, .int .i64 1, .int .i64 2, .slice a' 2 cap'], .int .i64 0]) ∧ ZonesIn w' (Plus F W.heap.size) a' 2 cap' (exS s).zones ∧ Below W.heap.size W w' := fun s hs F a cap W hF hz => by
    have := sync_any F (exD1 s) a 2 cap W hF hz
    unfold MedPost DevPost at this
    rw [ex_sync hs, ex_check1 hs, if_pos rfl] at this
    exact this
theorem one_c2 : ∀ s : ByteArray, s.size = 40 → ∀ (F : Nat → Prop) a cap W, (∀ b, F b → b < W.heap.size) → ZonesIn W F a 2 cap (exS s).zones → Calls Try.prog 12 #[.agg #[.int .i64 3, .int .i64 1, .int .i64 2, .slice a 2 cap], .slice none 0 0] W fun e w' => ∃ a' cap', e = .returned (.tuple #[.agg #[.int .i64 3, .int .i64 1, .int .i64 2, .slice a' 2 cap'], .int .i64 0]) ∧ ZonesIn w' (Plus F W.heap.size) a' 2 cap' (exC s).zones ∧ Below W.heap.size W w' := fun s hs F a cap W hF hz => by
    have := crash_any F (exS s) a 2 cap [] [] none 0 0 W hF hz (.inl ⟨rfl, rfl, rfl, rfl⟩) rfl
    unfold MedPost DevPost at this
    rw [ex_crashS hs, ex_checkS hs, if_pos rfl] at this
    exact this
theorem one_vol {s : ByteArray} : (volL (exD1 s))[0]? = some 1 := by
  have e : vol ⟨1, 0, [s]⟩ = 1 := by
    unfold vol wrap64
    have : (([s] : List ByteArray).length : Int) = 1 := rfl
    simp only [this]
    omega
  show some (vol ⟨1, 0, [s]⟩) = some 1
  rw [e]
theorem one_v1 : ∀ s : ByteArray, ∀ a cap W, IsZones W a 2 cap (exD1 s).zones → Calls Try.prog 20 #[.agg #[.int .i64 3, .int .i64 1, .int .i64 2, .slice a 2 cap]] W fun e w' => ∃ g, e = .returned (.slice (some ⟨g, 0, none⟩) 2 2) ∧ w'.cell? ⟨g, 0, none⟩ = some (.int .i64 1) ∧ Below W.heap.size W w' := fun s a cap W hz => by
    refine (vols_any (exD1 s) a 2 cap W hz (by omega)).mono ?_
    rintro e w' ⟨g, rfl, -, hn, hb⟩
    exact ⟨g, rfl, hn.2 0 1 one_vol, hb⟩
set_option maxHeartbeats 2000000 in
set_option maxRecDepth 20000 in
theorem awake_med (w : World) : Calls Try.prog 8 #[] w fun e w' => e = .returned (.bool true) ∧ Below w.heap.size w w' := by
  have hdev := one_dev w
  have hC1 := one_c1
  have hS1 := one_s1
  have hC2 := one_c2
  have hV1 := one_v1
  have HD := Lib.hid hdev
  have HC1 := Lib.hid hC1
  have HS1 := Lib.hid hS1
  have HC2 := Lib.hid hC2
  have HV1 := Lib.hid hV1
  have b0 := (Below.refl w.heap.size w).alloc (Nat.le_refl _) (.cells #[.int .i64 0, .int .i64 0, .int .i64 0, .int .i64 0, .int .i64 8, .int .i64 0, .int .i64 0, .int .i64 0, .int .i64 0] 3)
  clear hdev hC1 hS1 hC2 hV1
  go_enter Try.func8, Try.ntmps8
  go_wp2_with (first
    | (go_at_call 10; ((with_reducible refine HD.out.mono ?_); rintro e w1 ⟨s, a1, c1, hs, rfl, hz1, hb1⟩; have hz1 : ZonesIn (w1.alloc (devRow 3 1 2 a1 2 c1)) (fun b => b < w1.heap.size) a1 2 c1 (exD1 s).zones := (hz1.cut.mono (fun _ _ h => h.2)).on (Agree.below ((Below.refl _ _).alloc (Nat.le_refl _) (devRow 3 1 2 a1 2 c1))); have x1 := heap_alloc_new w1 (devRow 3 1 2 a1 2 c1); have b1 := (b0.trans (hb1.mono b0.size)).alloc (Nat.le_trans b0.size hb1.size) (devRow 3 1 2 a1 2 c1); obtain ⟨y1, d0, d1, d2, d3⟩ := row4 x1))
    | (go_at_call 12; ((with_reducible refine (HC1.out s hs _ a1 c1 _ (fun b h => by simp only [World.size_alloc]; exact Nat.lt_succ_of_lt h) hz1).mono ?_); rintro e w2 ⟨a2, c2, rfl, za2, hb2⟩; have x2 := row_al (row_on hb2 x1 (lt_of_block x1)) (devRow 3 1 2 a2 2 c2); have hz2 := (hz1.on (Agree.below hb2)).on (Agree.below ((Below.refl _ _).alloc (Nat.le_refl _) (devRow 3 1 2 a2 2 c2))); have p2 := heap_alloc_new w2 (devRow 3 1 2 a2 2 c2); have za2' := za2.is.on ((Below.refl w2.heap.size w2).alloc (Nat.le_refl _) (devRow 3 1 2 a2 2 c2)) (Nat.le_refl _); have b2 := (b1.trans (hb2.mono b1.size)).alloc (Nat.le_trans b1.size hb2.size) (devRow 3 1 2 a2 2 c2); clear d0 d1 d2 d3; obtain ⟨y2, d0, d1, d2, d3⟩ := row4 x2))
    | (go_at_call 13; ((with_reducible refine (HS1.out s hs _ a1 c1 _ (fun b h => by have := b2.size; have := hb2.size; simp only [World.size_alloc] at *; omega) hz2).mono ?_); rintro e w3 ⟨a3, c3, rfl, zb3, hb3⟩; have x3 := row_al (row_on hb3 x2 (lt_of_block x2)) (devRow 3 1 2 a3 2 c3); have hz3 := (hz2.on (Agree.below hb3)).on (Agree.below ((Below.refl _ _).alloc (Nat.le_refl _) (devRow 3 1 2 a3 2 c3))); have p3 := row_al (row_on hb3 p2 (lt_of_block p2)) (devRow 3 1 2 a3 2 c3); have za3 := (za2'.on hb3 (Nat.le_refl _)).on ((Below.refl _ _).alloc (Nat.le_refl _) (devRow 3 1 2 a3 2 c3)) (Nat.le_refl _); have q3 := heap_alloc_new w3 (devRow 3 1 2 a3 2 c3); have zb3 := zb3.cut.on (Agree.below ((Below.refl w3.heap.size w3).alloc (Nat.le_refl _) (devRow 3 1 2 a3 2 c3))); have b3 := (b2.trans (hb3.mono b2.size)).alloc (Nat.le_trans b2.size hb3.size) (devRow 3 1 2 a3 2 c3); clear d0 d1 d2 d3; obtain ⟨y3, d0, d1, d2, d3⟩ := row4 x3; obtain ⟨yq, e0, e1, e2, e3⟩ := row4 q3))
    | (go_at_call 12; ((with_reducible refine (HC2.out s hs _ a3 c3 _ (fun b h => by have := h.2; simp only [World.size_alloc]; omega) zb3).mono ?_); rintro e w4 ⟨a4, c4, rfl, zc4, hb4⟩; have x4 := row_al (row_on hb4 x3 (lt_of_block x3)) (devRow 3 1 2 a4 2 c4); have hz4 := (hz3.on (Agree.below hb4)).on (Agree.below ((Below.refl _ _).alloc (Nat.le_refl _) (devRow 3 1 2 a4 2 c4))); have p4 := row_al (row_on hb4 p3 (lt_of_block p3)) (devRow 3 1 2 a4 2 c4); have za4 := (za3.on hb4 (Nat.le_refl _)).on ((Below.refl _ _).alloc (Nat.le_refl _) (devRow 3 1 2 a4 2 c4)) (Nat.le_refl _); have q4 := heap_alloc_new w4 (devRow 3 1 2 a4 2 c4); have zc4 := zc4.is.on ((Below.refl w4.heap.size w4).alloc (Nat.le_refl _) (devRow 3 1 2 a4 2 c4)) (Nat.le_refl _); have b4 := (b3.trans (hb4.mono b3.size)).alloc (Nat.le_trans b3.size hb4.size) (devRow 3 1 2 a4 2 c4); clear d0 d1 d2 d3 e0 e1 e2 e3; obtain ⟨y4, d0, d1, d2, d3⟩ := row4 x4))
    | (go_at_call 20; ((with_reducible refine (HV1.out s a1 c1 _ hz4.is).mono ?_); rintro e w5 ⟨g5, rfl, hv5, hb5⟩; have p5 := row_on hb5 p4 (lt_of_block p4); have q5 := row_on hb5 q4 (lt_of_block q4); have za5 := za4.on hb5 (Nat.le_refl _); have zc5 := zc4.on hb5 (Nat.le_refl _); have b5 := b4.trans (hb5.mono b4.size); clear d0 d1 d2 d3; obtain ⟨y5, d0, d1, d2, d3⟩ := row4 p5; obtain ⟨yq5, e0, e1, e2, e3⟩ := row4 q5; obtain ⟨xa, sa, sac, rfl, f0, f1, f2⟩ := first_zone za5; obtain ⟨xc, sc', scc, rfl, g0, g1, g2⟩ := first_zone zc5)))
  go_ret
  exact ⟨rfl, b5⟩
end Go.Proofs.Ytlplomofgbmgaaa

/- Crash and Sync of valid devices; what the laws without the reference keep of three devices. -/
namespace Go.Proofs.Ytlplomofgbmgaaa
open Go.RowKit Plan ZnsMath MedMath

/-- what a function that returns a device and no error leaves -/
def DevOk (w : World) (n : Nat) (size op act : Int) (Z : List Zone) (e : Ending) (w' : World) : Prop :=
  ∃ a cap, e = .returned (.tuple #[.agg #[.int .i64 size, .int .i64 op, .int .i64 act, .slice a n cap], .int .i64 0]) ∧ IsZones w' a n cap Z ∧ Below w.heap.size w w'
theorem crash_is {size op act : Int} {Z Z' : List Zone} (hc : checkE ⟨size, op, act, Z⟩ = 0) (a : Option Addr) (n cap : Nat) (zs : List Int) (ka : Option Addr) (kl kc : Nat) (W : World) (hz : IsZones W a n cap Z) (hk : IsRow .i64 W ka kl kc zs) (hZ : (crashD ⟨size, op, act, Z⟩ (zs.take kl)).zones = Z') :
    Calls Try.prog 12 #[.agg #[.int .i64 size, .int .i64 op, .int .i64 act, .slice a n cap], .slice ka kl kc] W (DevOk W n size op act Z') := by
  have h := crash_any _ ⟨size, op, act, Z⟩ a n cap zs _ ka kl kc W (fun _ h => h) (ZonesIn.of hz) hk rfl
  unfold MedPost DevPost at h
  rw [crashR, if_pos hc, if_pos hc, hc] at h
  subst hZ
  refine h.mono ?_
  rintro e w' ⟨a', cap', rfl, hz', hb⟩
  exact ⟨a', cap', rfl, hz'.is, hb⟩
theorem sync_is {size op act : Int} {Z Z' : List Zone} (hc : checkE ⟨size, op, act, Z⟩ = 0) (a : Option Addr) (n cap : Nat) (W : World) (hz : IsZones W a n cap Z) (hZ : (durD ⟨size, op, act, Z⟩).zones = Z') :
    Calls Try.prog 13 #[.agg #[.int .i64 size, .int .i64 op, .int .i64 act, .slice a n cap]] W (DevOk W n size op act Z') := by
  have h := sync_any _ ⟨size, op, act, Z⟩ a n cap W (fun _ h => h) (ZonesIn.of hz)
  unfold MedPost DevPost at h
  rw [syncR, if_pos hc, if_pos hc, hc] at h
  subst hZ
  refine h.mono ?_
  rintro e w' ⟨a', cap', rfl, hz', hb⟩
  exact ⟨a', cap', rfl, hz'.is, hb⟩
theorem check_is {size op act : Int} {Z : List Zone} (hc : checkE ⟨size, op, act, Z⟩ = 0) (a : Option Addr) (n cap : Nat) (W : World) (hz : IsZones W a n cap Z) :
    Calls Try.prog 14 #[.agg #[.int .i64 size, .int .i64 op, .int .i64 act, .slice a n cap]] W fun e w' => e = .returned (.int .i64 0) ∧ Below W.heap.size W w' := by
  have h := refCheck05_any ⟨size, op, act, Z⟩ a n cap W hz
  rw [hc] at h
  exact h
theorem same_is {size op act : Int} {Z : List Zone} (a b : Option Addr) (n cap cap2 : Nat) (W : World) (hz : IsZones W a n cap Z) (hy : IsZones W b n cap2 Z) :
    Calls Try.prog 15 #[.agg #[.int .i64 size, .int .i64 op, .int .i64 act, .slice a n cap], .agg #[.int .i64 size, .int .i64 op, .int .i64 act, .slice b n cap2]] W fun e w' => e = .returned (.bool true) ∧ Below W.heap.size W w' := refSame_any ⟨size, op, act, Z⟩ a b n cap cap2 W hz hy
/-- three devices of one size in boxes -/
structure Three (w W : World) (X Y T : Nat) (ds op da : Int) (DZ AZ CZ : List Zone) (a b c : Option Addr) (n k l m : Nat) : Prop where
  x : W.heap[X]? = some (devRow ds op da a n k)
  y : W.heap[Y]? = some (devRow ds op da b n l)
  t : W.heap[T]? = some (devRow ds op da c n m)
  zx : IsZones W a n k DZ
  zy : IsZones W b n l AZ
  zt : IsZones W c n m CZ
  b : Below w.heap.size w W
theorem Three.on {w W W' : World} {X Y T : Nat} {ds op da : Int} {DZ AZ CZ : List Zone} {a b c : Option Addr} {n k l m : Nat} (h : Three w W X Y T ds op da DZ AZ CZ a b c n k l m) (hb : Below W.heap.size W W') : Three w W' X Y T ds op da DZ AZ CZ a b c n k l m :=
  ⟨row_on hb h.x (lt_of_block h.x), row_on hb h.y (lt_of_block h.y), row_on hb h.t (lt_of_block h.t), h.zx.on hb (Nat.le_refl _), h.zy.on hb (Nat.le_refl _), h.zt.on hb (Nat.le_refl _), h.b.trans (hb.mono h.b.size)⟩
theorem Three.drew {w W : World} {X Y T : Nat} {ds op da : Int} {DZ AZ CZ : List Zone} {a b c : Option Addr} {n k l m : Nat} (h : Three w W X Y T ds op da DZ AZ CZ a b c n k l m) : Three w W.drew X Y T ds op da DZ AZ CZ a b c n k l m := h.on (Below.refl _ _).drew
theorem keeps_rel {D : Dev} (hc : checkE D = 0) (K : List Int) (j : Nat) (z : Zone) (hz : D.zones[j]? = some z) :
    ∃ m : Nat, z.durable ≤ m ∧ m ≤ z.sectors.length ∧ (∃ y, (crashD D K).zones[j]? = some y ∧ y.sectors = z.sectors.take m) ∧ ∃ t, (crashD (durD D) K).zones[j]? = some t ∧ t.sectors.length = z.sectors.length := by
  obtain ⟨h1, h2, -, -⟩ := check_parts hc
  obtain ⟨g1, g2, -, -⟩ := check_parts (dur_valid hc)
  have hp := config_parts h1
  have hs := stays_eq (right_all h2 hz) (by omega) K j
  have hzd : (durD D).zones[j]? = some (durZ z) := by
    show (D.zones.map durZ)[j]? = _
    rw [List.getElem?_map, hz]; rfl
  have hq := config_parts g1
  have ht := stays_eq (right_all g2 hzd) (by omega) K j
  refine ⟨stays z K j, hs.2.1, hs.2.2.1, ⟨_, crash_get hz K, rfl⟩, _, crash_get hzd K, ?_⟩
  show (List.take _ _).length = _
  rw [List.length_take]
  have e1 : (durZ z).sectors = z.sectors := rfl
  have e2 : (durZ z).durable = z.sectors.length := rfl
  rw [e1] at ht ⊢
  rw [e2] at ht
  omega
theorem keeps_all {size op act : Int} {Z : List Zone} (hc : checkE ⟨size, op, act, Z⟩ = 0) (K M : List Int) :
    ∃ AZ SZ CZ : List Zone, (crashD ⟨size, op, act, Z⟩ K).zones = AZ ∧ checkE ⟨size, op, act, AZ⟩ = 0 ∧ (crashD ⟨size, op, act, AZ⟩ M).zones = AZ ∧ (durD ⟨size, op, act, Z⟩).zones = SZ ∧ checkE ⟨size, op, act, SZ⟩ = 0 ∧ (crashD ⟨size, op, act, SZ⟩ K).zones = CZ ∧
      ∀ (j : Nat) (z : Zone), Z[j]? = some z → ∃ m : Nat, z.durable ≤ m ∧ m ≤ z.sectors.length ∧ (∃ y : Zone, AZ[j]? = some y ∧ y.sectors = z.sectors.take m) ∧ ∃ t : Zone, CZ[j]? = some t ∧ t.sectors.length = z.sectors.length :=
  ⟨_, _, _, rfl, crash_valid hc K, congrArg Dev.zones (crash_twice hc K M), rfl, dur_valid hc, rfl, fun j z h => keeps_rel hc K j z h⟩
end Go.Proofs.Ytlplomofgbmgaaa

/- A device that comes in: its numbers and its zones. -/
namespace Go.Proofs.Ytlplomofgbmgaaa
open Go.ChangeShapes Go.WideShapes Go.RowKit ZnsMath

theorem cells_zone : Try.prog.cellsOf 28 = 3 := by kernel_rfl
theorem cells_dev : Try.prog.cellsOf 24 = 4 := by kernel_rfl
theorem cells_strs : Try.prog.cellsOf 26 = 1 := by kernel_rfl
theorem cells_zones : Try.prog.cellsOf 22 = 1 := by kernel_rfl
section
variable {H : Type} {enc : TypeId × Value → H} {w : World} {base : Nat} {spare : Nat → Bool} {held : Bool}
/-- a list of strings among data -/
theorem open_strs {fuel : Nat} {cs : List Value} {x : DataW H × List MemPlace} (h : DataW.trod enc Try.prog w base spare held fuel 26 cs = some x) : ∃ sa sl sc L, cs = [.slice sa sl sc] ∧ IsStrs w sa sl sc L := by
  rcases open_strings Try.underlying26 Try.underlying9 (by kernel_rfl) h with ⟨hcs, _⟩ | ⟨x, l, c, ss, hcs, _, hl, hm, hs, _, hcell, hsz⟩
  · exact ⟨none, 0, 0, [], hcs, .inl ⟨rfl, rfl, rfl, rfl⟩⟩
  · have hll : l ≤ ss.length := by rw [hs]; split <;> omega
    refine ⟨_, _, _, ss.take l, hcs, .inr ⟨_, rfl, hl, hm, by rw [List.length_take]; omega, fun i s hi => ?_⟩⟩
    rw [List.getElem?_take] at hi
    split at hi
    · have hlt := (List.getElem?_eq_some_iff.1 hi).1
      refine ⟨?_, hsz s (List.mem_of_getElem? hi)⟩
      rw [hcell i hlt, List.getD_eq_getElem?_getD, hi]; rfl
    · cases hi
/-- a zone among data -/
theorem open_zone {fuel : Nat} {cs : List Value} {x : DataW H × List MemPlace} (h : DataW.trod enc Try.prog w base spare held fuel 28 cs = some x) : ∃ (z : Zone) (sa : Option Addr) (sl sc : Nat), cs = [.int .i64 z.state, .int .i64 z.durable, .slice sa sl sc] ∧ IsStrs w sa sl sc z.sectors := by
  obtain ⟨xs, n, _, _, hl4, hlen, hg⟩ := DataW.trod_struct Try.underlying28 h
  rw [cells_zone] at hl4
  match cs, hl4 with
  | [x0, x1, x2], _ =>
    have hl : xs.length = 3 := hlen
    obtain ⟨y0, e0⟩ := some_of hl (i := 0) (by decide)
    obtain ⟨y1, e1⟩ := some_of hl (i := 1) (by decide)
    obtain ⟨y2, e2⟩ := some_of hl (i := 2) (by decide)
    have g0 : DataW.trod enc Try.prog w base spare held n 3 (([x0, x1, x2].drop 0).take (Try.prog.cellsOf 3)) = some y0 := (hg 0 _ rfl).trans e0
    rw [cells_int] at g0
    have g1 : DataW.trod enc Try.prog w base spare held n 3 (([x0, x1, x2].drop 1).take (Try.prog.cellsOf 3)) = some y1 := (hg 1 _ rfl).trans e1
    rw [cells_int] at g1
    have g2 : DataW.trod enc Try.prog w base spare held n 26 (([x0, x1, x2].drop 2).take (Try.prog.cellsOf 26)) = some y2 := (hg 2 _ rfl).trans e2
    rw [cells_strs] at g2
    obtain ⟨st, h0, _⟩ := DataW.trod_int Try.underlying3 g0
    obtain ⟨du, h1, _⟩ := DataW.trod_int Try.underlying3 g1
    obtain ⟨sa, sl, sc, L, h2, hs⟩ := open_strs g2
    simp at h0 h1 h2
    exact ⟨⟨st, du, L⟩, sa, sl, sc, by rw [h0, h1, h2], hs⟩
/-- zones among data -/
theorem open_zones {fuel : Nat} {cs : List Value} {x : DataW H × List MemPlace} (h : DataW.trod enc Try.prog w base spare held fuel 22 cs = some x) (hb : ∀ a len cap, cs = [.slice (some a) len cap] → a.block < w.heap.size) : ∃ a len cap Z, cs = [.slice a len cap] ∧ IsZones w a len cap Z := by
  rcases DataW.trod_slice Try.underlying22 h with ⟨rfl, _⟩ | ⟨a, len, cap, elems, rest, n, _, rfl, _, _, hl, hm, hlen, hel, _, _⟩
  · exact ⟨none, 0, 0, [], rfl, .inl ⟨rfl, rfl, rfl, rfl⟩⟩
  have each : ∀ i, i < len → ∃ z : Zone, w.cell? (a.add (i * 3)) = some (.int .i64 z.state) ∧ w.cell? (a.add (i * 3 + 1)) = some (.int .i64 z.durable) ∧ ∃ sa sl sc, w.cell? (a.add (i * 3 + 2)) = some (.slice sa sl sc) ∧ IsStrs w sa sl sc z.sectors := by
    intro i hi
    obtain ⟨y, hy⟩ : ∃ y, elems[i]? = some y := ⟨elems[i]'(by omega), List.getElem?_eq_getElem (by omega)⟩
    have h1 := (hel i hi).trans hy
    rw [cells_zone, Option.bind_eq_some_iff] at h1
    obtain ⟨cs, hcs, ht⟩ := h1
    obtain ⟨z, sa, sl, sc, rfl, hs⟩ := open_zone ht
    have hc : ∀ j u, ([Value.int .i64 z.state, .int .i64 z.durable, .slice sa sl sc] : List Value)[j]? = some u → w.cell? ((a.add (i * 3)).add j) = some u := fun j u hu => by
      obtain ⟨h1, h2⟩ := World.cells?_some hcs
      have hj : j < 3 := by have := (List.getElem?_eq_some_iff.1 hu).1; simpa using this
      exact (h2.2 j hj).trans hu
    refine ⟨z, ?_, ?_, sa, sl, sc, ?_, hs⟩
    · have := hc 0 _ rfl; rwa [Addr.add_add] at this
    · have := hc 1 _ rfl; rwa [Addr.add_add] at this
    · have := hc 2 _ rfl; rwa [Addr.add_add] at this
  have build : ∀ n, n ≤ len → ∃ Z : List Zone, Z.length = n ∧ ∀ (i : Nat) z, Z[i]? = some z → w.cell? (a.add (i * 3)) = some (.int .i64 z.state) ∧ w.cell? (a.add (i * 3 + 1)) = some (.int .i64 z.durable) ∧ ∃ sa sl sc, w.cell? (a.add (i * 3 + 2)) = some (.slice sa sl sc) ∧ IsStrs w sa sl sc z.sectors := by
    intro n
    induction n with
    | zero => intro _; exact ⟨[], rfl, fun i z hz => by cases hz⟩
    | succ n ih =>
      intro hn
      obtain ⟨Z, hZ, hall⟩ := ih (by omega)
      obtain ⟨z, hz⟩ := each n (by omega)
      refine ⟨Z ++ [z], by simp [hZ], fun i y hy => ?_⟩
      by_cases hi : i < Z.length
      · rw [List.getElem?_append_left hi] at hy
        exact hall i y hy
      · have hi2 := (List.getElem?_eq_some_iff.1 hy).1
        simp at hi2
        obtain rfl : i = Z.length := by omega
        obtain rfl : z = y := by simpa using hy
        rw [hZ]
        exact hz
  obtain ⟨Z, hZ, hall⟩ := build len (Nat.le_refl _)
  exact ⟨some a, len, cap, Z, rfl, .inr ⟨a, rfl, hl, hm, hZ, hb a len cap rfl, hall⟩⟩
/-- the block of a slice that came in -/
theorem slice_in {w : World} {r : Reach} {b0 : Nat} {u : TypeId} {a : Addr} {len cap : Nat} (h : Cell.okWide Try.prog w r b0 u (.slice (some a) len cap)) : a.block < w.heap.size := by
  have hs : (∃ row cells, w.shape? a.block = some (row, cells)) → a.block < w.heap.size := by
    rintro ⟨row, cells, h⟩
    unfold World.shape? at h
    rcases Nat.lt_or_ge a.block w.heap.size with hl | hl
    · exact hl
    · rw [Array.getElem?_eq_none hl] at h
      cases h
  unfold Cell.okWide at h
  split at h
  all_goals first
    | (rename_i hv; cases hv; done)
    | (rename_i hu hv; cases hv; done)
    | skip
  unfold Cell.ok at h
  split at h
  all_goals first
    | (rename_i hv; cases hv; done)
    | (rename_i hu hv; cases hv; done)
    | exact h.elim
    | skip
  rename_i hv
  cases hv
  obtain ⟨_, _, _, _, row, cells, hsh, _⟩ := h
  exact hs ⟨row, cells, hsh⟩
theorem open_dev {r : Reach} {b0 : Nat} {v : Value} {d : DataW H} {p : List MemPlace}
    (hok : Value.okWide Try.prog w r b0 24 v) (h : DataW.Trod enc Try.prog w base spare held 24 v d p) :
    ∃ (D : Dev) (a : Option Addr) (len cap : Nat), v = .agg #[.int .i64 D.size, .int .i64 D.maxOpen, .int .i64 D.maxActive, .slice a len cap] ∧ IsZones w a len cap D.zones := by
  have hok2 := hok
  obtain ⟨cs, rfl, hsz⟩ := okWide_struct Try.underlying24 hok
  obtain ⟨l⟩ := cs
  match l, hsz.trans cells_dev with
  | [x0, x1, x2, x3], _ =>
    have hblk : ∀ a len cap, x3 = .slice (some a) len cap → a.block < w.heap.size := by
      rintro a len cap rfl
      simp only [Value.okWide, Try.underlying24] at hok2
      obtain ⟨cs, e, _, ts, _, _, hall⟩ := hok2
      cases e
      obtain ⟨u, _, hc⟩ := hall 3 _ rfl
      exact slice_in hc
    obtain ⟨fuel, hf⟩ := h
    obtain ⟨xs, n, _, _, _, hlen, hg⟩ := DataW.trod_struct Try.underlying24 hf
    have hl : xs.length = 4 := hlen
    obtain ⟨y0, e0⟩ := some_of hl (i := 0) (by decide)
    obtain ⟨y1, e1⟩ := some_of hl (i := 1) (by decide)
    obtain ⟨y2, e2⟩ := some_of hl (i := 2) (by decide)
    obtain ⟨y3, e3⟩ := some_of hl (i := 3) (by decide)
    have g0 : DataW.trod enc Try.prog w base spare held n 3 (([x0, x1, x2, x3].drop 0).take (Try.prog.cellsOf 3)) = some y0 := (hg 0 _ rfl).trans e0
    rw [cells_int] at g0
    have g1 : DataW.trod enc Try.prog w base spare held n 3 (([x0, x1, x2, x3].drop 1).take (Try.prog.cellsOf 3)) = some y1 := (hg 1 _ rfl).trans e1
    rw [cells_int] at g1
    have g2 : DataW.trod enc Try.prog w base spare held n 3 (([x0, x1, x2, x3].drop 2).take (Try.prog.cellsOf 3)) = some y2 := (hg 2 _ rfl).trans e2
    rw [cells_int] at g2
    have g3 : DataW.trod enc Try.prog w base spare held n 22 (([x0, x1, x2, x3].drop 3).take (Try.prog.cellsOf 22)) = some y3 := (hg 3 _ rfl).trans e3
    rw [cells_zones] at g3
    obtain ⟨k, h0, _⟩ := DataW.trod_int Try.underlying3 g0
    obtain ⟨b, h1, _⟩ := DataW.trod_int Try.underlying3 g1
    obtain ⟨m, h2, _⟩ := DataW.trod_int Try.underlying3 g2
    obtain ⟨a, len, cap, Z, h3, hz⟩ := open_zones g3 (fun a len cap e => hblk a len cap (by simpa using e))
    simp at h0 h1 h2 h3
    exact ⟨⟨k, b, m, Z⟩, a, len, cap, by rw [h0, h1, h2, h3], hz⟩
end
end Go.Proofs.Ytlplomofgbmgaaa

/- How many zones a device that comes in may have, by the bytes that they take. -/
namespace Go.Proofs.Ytlplomofgbmgaaa
open Go.ChangeShapes Go.WideShapes Go.RowKit ZnsMath

theorem bytes_zone : Try.prog.bytesOf 28 = 40 := by kernel_rfl
theorem dev_len {H : Type} {enc : TypeId × Value → H} {w : World} {base : Nat} {spare : Nat → Bool} {held : Bool} {k b m : Int} {a : Option Addr} {len cap : Nat} {d : DataW H} {p : List MemPlace}
    (h : DataW.Trod enc Try.prog w base spare held 24 (.agg #[.int .i64 k, .int .i64 b, .int .i64 m, .slice a len cap]) d p) : len = 0 ∨ ∃ n ∈ d.weights Try.prog 24, len * 40 ≤ n := by
  obtain ⟨fuel, hf⟩ := h
  obtain ⟨xs, n, _, hx, _, hlen, hg⟩ := DataW.trod_struct Try.underlying24 hf
  have hd : d = .agg (xs.map (·.1)) := congrArg Prod.fst hx
  have hl : xs.length = 4 := hlen
  obtain ⟨y3, e3⟩ := some_of hl (i := 3) (by decide)
  have g3 : DataW.trod enc Try.prog w base spare held n 22 (([Value.int .i64 k, .int .i64 b, .int .i64 m, .slice a len cap].drop 3).take (Try.prog.cellsOf 22)) = some y3 := (hg 3 _ rfl).trans e3
  rw [cells_zones] at g3
  rcases DataW.trod_slice Try.underlying22 g3 with ⟨hc, _⟩ | ⟨a', len', cap', elems, rest, n', _, hc, hy, _, _, _, hel, _, _, _⟩
  · left
    simp at hc
    exact hc.2.1
  · right
    simp at hc
    obtain ⟨-, rfl, rfl⟩ := hc
    refine ⟨(elems.length + rest.length) * 40, ?_, by rw [← hel]; exact Nat.mul_le_mul_right _ (Nat.le_add_right _ _)⟩
    rw [hd]
    have hm := DataW.weights_mem_each (P := Try.prog) (ts := [3, 3, 3, 22]) (ds := xs.map (·.1)) (j := 3) (t := 22) (d := y3.1) rfl (by rw [List.getElem?_map, e3]; rfl) ((elems.length + rest.length) * 40) (by rw [hy]; simp [DataW.weights, Try.underlying22, bytes_zone])
    simp only [DataW.weights, Try.underlying24]
    exact hm
end Go.Proofs.Ytlplomofgbmgaaa
