/- Texts that belong together, part 14. -/
import Derived.Test.YtlplomofgbmgaaaPack13

/- The walks of the program's closures of Sync and Crash: what is done with each zone. -/
namespace Go.Proofs.Ytlplomofgbmgaaa
open Go.RowKit Plan ZnsMath MedMath

set_option maxHeartbeats 1000000 in
theorem syncZone_any (i : Int) (z : Zone) (a : Option Addr) (len cap : Nat) (w : World) (hl : z.sectors.length = len) :
    Calls Try.prog 31 #[.int .i64 i, zoneV z a len cap] w fun e w' => e = .returned (zoneV (durZ z) a len cap) ∧ Below w.heap.size w w' := by
  obtain ⟨st, du, L⟩ := z
  change Calls Try.prog 31 #[.int .i64 i, .agg #[.int .i64 st, .int .i64 du, .slice a len cap]] w fun e w' => e = .returned (.agg #[.int .i64 st, .int .i64 L.length, .slice a len cap]) ∧ Below w.heap.size w w'
  simp only at hl
  rw [hl]
  have b0 := ((Below.refl w.heap.size w).alloc (Nat.le_refl _) (zoneRow st len a len cap)).alloc (by simp) (zoneRow st len a len cap)
  go_enter Try.func31, Try.ntmps31
  go_wp2
  exact bodyPost_ret (results_cell_row rfl _ _ _ _ _ _ _ rfl (heap_second _ _ _) Try.underlying28 rfl zone_info) rfl ⟨rfl, b0⟩
/-- the list that the closure of Crash captures -/
abbrev keepRow (ka : Option Addr) (kl kc : Nat) : Obj := .cells #[.slice ka kl kc] 25
theorem row_cap {w : World} {a : Option Addr} {len cap : Nat} {zs : List Int} (h : IsRow .i64 w a len cap zs) : zs.length = cap ∧ len ≤ cap := by
  rcases h with ⟨_, rfl, rfl, rfl⟩ | ⟨x, _, h2, _, h4, _⟩
  · exact ⟨rfl, Nat.le_refl _⟩
  · exact ⟨h4, h2⟩
theorem keep_get {w : World} {a : Option Addr} {len cap : Nat} {zs : List Int} (h : IsRow .i64 w a len cap zs) (i : Nat) (hi : i < len) : ∃ x, a = some x ∧ w.cell? (x.add i) = some (.int .i64 ((zs.take len).getD i 0)) := by
  rcases h with ⟨_, rfl, _⟩ | ⟨x, h1, h2, h3, h4, h5, _⟩
  · omega
  · refine ⟨x, h1, ?_⟩
    rw [h5 i (by omega), List.getD_eq_getElem?_getD, List.getD_eq_getElem?_getD, List.getElem?_take, if_pos hi]
set_option maxHeartbeats 1000000 in
set_option maxRecDepth 20000 in
theorem crashZone_any (zs keep : List Int) (ka : Option Addr) (kl kc g i : Nat) (z : Zone) (size : Int) (a : Option Addr) (len cap : Nat) (w : World) (hg : w.heap[g]? = some (keepRow ka kl kc)) (hk : IsRow .i64 w ka kl kc zs) (hzk : zs.take kl = keep) (hs : IsStrs w a len cap z.sectors) (hr : rightB z size = true) (h64 : size ≤ 64) :
    Calls Try.prog 28 #[.int .i64 (i : Int), zoneV z a len cap, .pointer (some ⟨g, 0, none⟩)] w fun e w' => e = .returned (zoneV (crashZ keep i z) a (stays z keep i) (stays z keep i)) ∧ Below w.heap.size w w' := by
  have hl := hs.length
  have hst := stays_eq hr h64 keep i
  have hkl : keep.length = kl ∧ (i < kl ∨ keep.getD i 0 = 0) := by
    have hkl : keep.length = kl := by
      have := row_cap hk
      rw [← hzk, List.length_take]; omega
    refine ⟨hkl, ?_⟩
    rcases Nat.lt_or_ge i kl with h | h
    · exact .inl h
    · right
      rw [List.getD_eq_getElem?_getD, List.getElem?_eq_none (by omega)]
      rfl
  have hc : w.cell? ⟨g, 0, none⟩ = some (.slice ka kl kc) := cell_of_row _ _ 0 _ _ _ hg
  have hvol := fun W => volatile_any z a len cap W hl
  have hfl := fun W (h : Below w.heap.size w W) => failed_any z a len cap (stays z keep i) W (hs.on h (Nat.le_refl _)) (by omega)
  have hrr := (right_iff _ _).1 hr
  have hkg := keep_get hk i
  rw [hzk] at hkg
  clear hzk
  have hxx : ∀ x, ka = some x → i < kl → x.block < w.heap.size := fun x hx hi => by
    obtain ⟨y, e, hcell⟩ := hkg hi
    obtain rfl := Option.some.inj (hx.symm.trans e)
    have := block_lt_of_cell hcell
    rwa [add_block] at this
  generalize hK : keep.getD i 0 = K at *
  have hkk : keepK z keep i = max 0 (min K (vol z)) := by unfold keepK; rw [hK]
  have hvr := vol_right hr h64
  change Calls Try.prog 28 #[.int .i64 (i : Int), zoneV z a len cap, .pointer (some ⟨g, 0, none⟩)] w fun e w' => e = .returned (zoneV (failed z (stays z keep i)) a (stays z keep i) (stays z keep i)) ∧ Below w.heap.size w w'
  generalize stays z keep i = n at *
  have hV0 := vol_ge z
  generalize vol z = V at *
  generalize keepK z keep i = kk at *
  have HV := Lib.hid hvol
  have HF := Lib.hid hfl
  have hgl := lt_of_block hg
  generalize hf : failed z n = fz at *
  obtain ⟨st, du, L⟩ := z
  obtain ⟨fs, fd, FL⟩ := fz
  change Calls Try.prog 28 #[.int .i64 (i : Int), .agg #[.int .i64 st, .int .i64 du, .slice a len cap], .pointer (some ⟨g, 0, none⟩)] w fun e w' => e = .returned (.agg #[.int .i64 fs, .int .i64 fd, .slice a n n]) ∧ Below w.heap.size w w'
  simp only at hrr hst hl
  have b0 := ((Below.refl w.heap.size w).alloc (Nat.le_refl _) (zoneRow st du a len cap)).alloc (by simp) (zoneRow 0 0 none 0 0)
  have r0 := heap_first2 w (zoneRow st du a len cap) (zoneRow 0 0 none 0 0)
  have r1 := heap_second w (zoneRow st du a len cap) (zoneRow 0 0 none 0 0)
  have hc0 := (b0.cell (p := ⟨g, 0, none⟩) hgl).trans hc
  have hq3 : (K < 0 ∧ wrap64 du = n) ∨ (¬ K < 0 ∧ ¬ V < K ∧ wrap64 (du + K) = n) ∨ (¬ K < 0 ∧ V < K ∧ wrap64 (du + V) = n) := by
    unfold wrap64
    omega
  have h00 : K = 0 → wrap64 du = n := fun h => by unfold wrap64; omega
  have hikk := hkl.2
  have hkx : i < kl → ∃ x, ka = some x ∧ w.cell? (x.add i) = some (.int .i64 K) ∧ x.block < w.heap.size := fun h => by
    obtain ⟨x, e, hcell⟩ := hkg h
    exact ⟨x, e, hcell, hxx x e h⟩
  clear hvol hfl hs hr hkg hxx hst hrr hkl hK hkk hf hk hg hvr hl
  have H00 := Lib.hid h00
  clear h00
  by_cases hik : i < kl
  · obtain ⟨x, rfl, hkc, hxb⟩ := hkx hik
    have hkc0 := (b0.cell (p := x.add i) (by rw [add_block]; exact hxb)).trans hkc
    have hikI : (i : Int) < (kl : Int) := by omega
    clear hikk hkx
    rcases hq3 with ⟨hK0, hmw⟩ | ⟨hK0, hKV, hmw⟩ | ⟨hK0, hKV, hmw⟩
    all_goals
      have HMW := Lib.hid hmw
      clear hmw
      go_enter Try.func28, Try.ntmps28
      generalize hw0 : (w.alloc (zoneRow st du a len cap)).alloc (zoneRow 0 0 none 0 0) = w0 at *
      obtain ⟨y0, d0, d1, d2⟩ := row3 r0
      go_wp2_with fail
      refine Plan.start (fun W => W.cell? ⟨g, 0, none⟩ = some (.slice (some x) kl kc) ∧ W.cell? (x.add i) = some (.int .i64 K) ∧ W.cell? ⟨w.heap.size, 0, none⟩ = some (.int .i64 st) ∧ W.cell? ⟨w.heap.size, 1, none⟩ = some (.int .i64 du) ∧ W.cell? ⟨w.heap.size, 2, none⟩ = some (.slice a len cap)) [(0, true), (1, true), (2, true), (3, true), (4, true), (5, true), (6, false), (7, true), (8, true)] (by kernel_rfl) (by kernel_rfl) (by kernel_rfl) (by kernel_rfl) ⟨hc0, hkc0, d0, d1, d2⟩ ?_
      simp only [List.map_cons, List.map_nil, List.getElem?_toArray, List.getElem?_cons_zero, List.getElem?_cons_succ]
      repeat (first | (refine Plan.take ?_ (by rfl) ?_ ?_; rotate_left; (· rintro w9 ⟨u0, u1, u2, u3, u4⟩; go_simp; (try rw [if_neg (by omega)]); (try rw [if_pos (by omega)]); all_goals (with_reducible rfl)); simp only [Act.put, List.setIfInBounds_toArray, List.set_cons_zero, List.set_cons_succ]) | (refine Plan.pass (by rfl) ?_; simp only [Act.put, List.setIfInBounds_toArray, List.set_cons_zero, List.set_cons_succ]))
      refine Plan.call (by rfl) 29 _ ?_ (HV.out _) ?_
      · go_simp
      rintro e w1 ⟨rfl, hb1⟩
      have hb1 := (Below.refl w0.heap.size w0).drew.trans hb1
      have b1 := b0.trans (hb1.mono b0.size)
      have r01 := row_on hb1 r0 (lt_of_block r0)
      have r11 := row_on hb1 r1 (lt_of_block r1)
      have hc1 := (b1.cell (p := ⟨g, 0, none⟩) hgl).trans hc
      have hkc1 := (b1.cell (p := x.add i) (by rw [add_block]; exact hxb)).trans hkc
      clear d0 d1 d2
      obtain ⟨y1, d0, d1, d2⟩ := row3 r01
      refine ⟨_, rfl, ⟨hc1, hkc1, d0, d1, d2⟩, ?_⟩
      simp only [Act.put, List.setIfInBounds_toArray, List.set_cons_zero, List.set_cons_succ]
      repeat (first | (refine Plan.take ?_ (by rfl) ?_ ?_; rotate_left; (· rintro w9 ⟨u0, u1, u2, u3, u4⟩; go_simp; (try rw [if_neg (by omega)]); (try rw [if_pos (by omega)]); all_goals (with_reducible rfl)); simp only [Act.put, List.setIfInBounds_toArray, List.set_cons_zero, List.set_cons_succ]) | (refine Plan.pass (by rfl) ?_; simp only [Act.put, List.setIfInBounds_toArray, List.set_cons_zero, List.set_cons_succ]))
      refine Plan.ends ?_
      go_wp2_with (first
        | (go_at_call 30; (try rw [HMW.out]); ((with_reducible refine (HF.out _ b1).mono ?_); rintro e w2 ⟨rfl, hb2⟩; have r12 := row_on hb2 r11 (lt_of_block r11); have b2 := b1.trans (hb2.mono b1.size)))
        | ((with_reducible refine Plan.store_lit 28 (.tmp 5) _ (w.heap.size + 1) ?_ r12 ?_ ?_ ?_ ?_ ?_ ?_); rotate_left; (· rfl); (· rfl); (· exact zone_info); (· rfl); (· simp [Value.oneCell']); simp only [Act.put]))
      exact bodyPost_ret (results_cell_row rfl _ _ _ _ _ _ _ rfl (setRow_heap _ _ _ _ _ _ r12) Try.underlying28 rfl zone_info) rfl ⟨rfl, below_setRow b2 (show w.heap.size ≤ w.heap.size + 1 by omega) _⟩
  · have hikI : ¬ (i : Int) < (kl : Int) := by omega
    have hmw := H00.out (hikk.resolve_left hik)
    have HMW := Lib.hid hmw
    clear hikk hkx hq3 hmw H00
    go_enter Try.func28, Try.ntmps28
    generalize hw0 : (w.alloc (zoneRow st du a len cap)).alloc (zoneRow 0 0 none 0 0) = w0 at *
    obtain ⟨y0, d0, d1, d2⟩ := row3 r0
    go_wp2_with (first
        | (go_at_call 30; (try rw [HMW.out]); ((with_reducible refine (HF.out _ b0).mono ?_); rintro e w2 ⟨rfl, hb2⟩; have r12 := row_on hb2 r1 (lt_of_block r1); have b2 := b0.trans (hb2.mono b0.size)))
        | ((with_reducible refine Plan.store_lit 28 (.tmp 5) _ (w.heap.size + 1) ?_ r12 ?_ ?_ ?_ ?_ ?_ ?_); rotate_left; (· rfl); (· rfl); (· exact zone_info); (· rfl); (· simp [Value.oneCell']); simp only [Act.put]))
    exact bodyPost_ret (results_cell_row rfl _ _ _ _ _ _ _ rfl (setRow_heap _ _ _ _ _ _ r12) Try.underlying28 rfl zone_info) rfl ⟨rfl, below_setRow b2 (show w.heap.size ≤ w.heap.size + 1 by omega) _⟩
end Go.Proofs.Ytlplomofgbmgaaa

/- The walk of the maker's Device. -/
namespace Go.Proofs.Ytlplomofgbmgaaa
open Go.RowKit Plan ZnsMath

/-- what the maker's Device leaves: a valid device with two to five zones -/
def DevMade (w : World) (e : Ending) (w' : World) : Prop :=
  ∃ (D : Dev) (a : Option Addr) (n cap : Nat), e = .returned (devV D a n cap) ∧ ZonesIn w' (fun b => w.heap.size ≤ b) a n cap D.zones ∧ checkE D = 0 ∧ 2 ≤ n ∧ n ≤ 5 ∧ Below w.heap.size w w'
theorem below_of_grown {B : Nat} {w0 w w' : World} {g : Nat} (hb : Below B w0 w) (h : w.grownBy w' (some g)) (hg : B ≤ g) (hB : B ≤ w.heap.size) : Below B w0 w' :=
  hb.grown h hB (fun k hk => by have := Option.some.inj hk; omega)
theorem new_valid {n v u : Nat} (h1 : 2 ≤ n) (h2 : n ≤ 5) (h3 : v < 3) (h4 : u < 2) : newE (n : Int) (3 + (v : Int)) (1 + (u : Int)) 2 = 0 := by
  rw [newE_eq, if_pos]
  unfold possibleB
  simp only [decide_eq_true_eq]
  omega
theorem row_keep {k : IntKind} {w w' : World} {a : Option Addr} {len cap : Nat} {zs : List Int} (h : IsRow k w a len cap zs) (hb : Below w.heap.size w w') : IsRow k w' a len cap zs := by
  rcases h with h | ⟨x, h1, h2, h3, h4, h5, h6⟩
  · exact .inl h
  · refine .inr ⟨x, h1, h2, h3, h4, fun i hi => ?_, h6⟩
    have hc := h5 i hi
    rw [hb.cell (block_lt_of_cell hc), hc]
theorem dice_cell {w : World} {base g : Nat} {zs : List Int} {k : Nat} (h : Dice w base g zs k) : w.cell? ⟨g, 1, none⟩ = some (.int .i64 k) := by
  obtain ⟨v, hg, _⟩ := h
  exact cell_of_row _ _ 1 _ _ _ hg
theorem nxt_nat (zs : List Int) (k m : Nat) (h : 1 ≤ m) : ∃ v : Nat, nxt zs k (m : Int) = (v : Int) ∧ v < m := by
  have := nxt_range zs k (m : Int) (by omega)
  exact ⟨(nxt zs k (m : Int)).toNat, by omega, by omega⟩
set_option maxHeartbeats 2000000 in
set_option maxRecDepth 20000 in
theorem device_any (a : Option Addr) (len cap : Nat) (z : List Int) (w : World) (hrow : IsRow .i64 w a len cap z) (hl : len ≤ 300) :
    Calls Try.prog 10 #[.slice a len cap] w (DevMade w) := by
  have hA : Below w.heap.size w (w.alloc (devRow 0 0 0 none 0 0)) := (Below.refl _ _).alloc (Nat.le_refl _) _
  have hro := roll_any a len cap z (w.alloc (devRow 0 0 0 none 0 0)) (row_keep hrow hA) hl
  have hzl : (z.take len).length ≤ 300 := by rw [List.length_take]; omega
  generalize z.take len = zs at *
  obtain ⟨v1, hv1, hb1⟩ := nxt_nat zs 0 4 (by decide)
  obtain ⟨v2, hv2, hb2⟩ := nxt_nat zs (stp zs 0) 3 (by decide)
  obtain ⟨v3, hv3, hb3⟩ := nxt_nat zs (stp zs (stp zs 0)) 2 (by decide)
  obtain ⟨n, hn⟩ : ∃ n : Nat, 2 + v1 = n := ⟨_, rfl⟩
  obtain ⟨s, hs⟩ : ∃ s : Nat, 3 + v2 = s := ⟨_, rfl⟩
  obtain ⟨o, ho⟩ : ∃ o : Nat, 1 + v3 = o := ⟨_, rfl⟩
  have hw1 : IntKind.i64.wrap (2 + (v1 : Int)) = (n : Int) := by rw [IntKind.wrap_i64]; omega
  have hw2 : IntKind.i64.wrap (3 + (v2 : Int)) = (s : Int) := by rw [IntKind.wrap_i64]; omega
  have hw3 : IntKind.i64.wrap (1 + (v3 : Int)) = (o : Int) := by rw [IntKind.wrap_i64]; omega
  have hne : newE (n : Int) (s : Int) (o : Int) 2 = 0 := by
    rw [newE_eq, if_pos]
    unfold possibleB
    simp only [decide_eq_true_eq]
    omega
  have hnc : checkE ⟨(s : Int), (o : Int), 2, List.replicate n empty⟩ = 0 := by
    have h := hne
    unfold newE newD at h
    rw [if_neg (by omega), Int.toNat_natCast] at h
    exact h
  have hnew : ∀ W, Calls Try.prog 24 #[.int .i64 (n : Int), .int .i64 (s : Int), .int .i64 (o : Int), .int .i64 2] W fun e w' => ∃ a cap, e = .returned (.tuple #[.agg #[.int .i64 (s : Int), .int .i64 (o : Int), .int .i64 2, .slice a n cap], .int .i64 0]) ∧ ZonesIn w' (Plus (fun _ => False) W.heap.size) a n cap (List.replicate n empty) ∧ Below W.heap.size W w' := fun W => by
    have h := refNew_any (n : Int) (s : Int) (o : Int) 2 W
    have hr : newR (n : Int) (s : Int) (o : Int) 2 = ⟨(s : Int), (o : Int), 2, List.replicate n empty⟩ := by
      unfold newR newD
      rw [if_pos hne, Int.toNat_natCast]
    rw [hr, hne, if_pos rfl, Int.toNat_natCast] at h
    exact h
  have hv1 : nxt zs 0 4 = (v1 : Int) := by simpa using hv1
  have hv2 : nxt zs (stp zs 0) 3 = (v2 : Int) := by simpa using hv2
  have hv3 : nxt zs (stp zs (stp zs 0)) 2 = (v3 : Int) := by simpa using hv3
  have hN : ∀ W base g k (m : Int), Dice W base g zs k → 1 ≤ m → m ≤ 1000 → Calls Try.prog 23 #[.pointer (some ⟨g, 0, none⟩), .int .i64 m] W (NextPost W base g zs k m) := fun W base g k m h h1 h2 => next_any W base g zs k m h (by omega) (by omega) (by omega)
  have hn25 : 2 ≤ n ∧ n ≤ 5 := by omega
  have HR := Lib.hid hro
  have HN := Lib.hid hN
  have HW := Lib.hid hnew
  have HV1 := Lib.hid hv1
  have HV2 := Lib.hid hv2
  have HV3 := Lib.hid hv3
  have HC := Lib.hid hnc
  have HA := Lib.hid hA
  clear hro hN hnew hv1 hv2 hv3 hnc hA hne hrow hn hs ho hb1 hb2 hb3
  unfold DevMade
  go_enter Try.func10, Try.ntmps10
  go_wp2_with (first
    | (go_at_call 22; ((with_reducible refine HR.out.mono ?_); rintro e w1 ⟨g, rfl, hd1, hb1⟩; have hg0 : w.heap.size < g := (by have h := dice_base hd1; rw [World.size_alloc] at h; omega); have hr1 := row_on hb1 (heap_alloc_new w _) (by simp); have b1 := HA.out.trans (hb1.mono (by simp))))
    | (go_at_call 23; ((with_reducible refine (HN.out _ _ g 0 4 hd1 (by decide) (by decide)).mono ?_); rintro e w2 ⟨rfl, hd2, hg2, hs2⟩; rw [HV1.out]; have hr2 := row_grown hg2 hr1 (by omega); have b2 := below_of_grown b1 hg2 (by omega) b1.size))
    | (go_at_call 23; ((with_reducible refine (HN.out _ _ g (stp zs 0) 3 hd2 (by decide) (by decide)).mono ?_); rintro e w3 ⟨rfl, hd3, hg3, hs3⟩; rw [HV2.out]; have hr3 := row_grown hg3 hr2 (by omega); have b3 := below_of_grown b2 hg3 (by omega) b2.size))
    | (go_at_call 23; ((with_reducible refine (HN.out _ _ g (stp zs (stp zs 0)) 2 hd3 (by decide) (by decide)).mono ?_); rintro e w4 ⟨rfl, hd4, hg4, hs4⟩; rw [HV3.out]; have hr4 := row_grown hg4 hr3 (by omega); have b4 := below_of_grown b3 hg4 (by omega) b3.size))
    | (go_at_call 24; ((with_reducible refine (HW.out _).mono ?_); rintro e w5 ⟨a5, c5, rfl, hz5, hb5⟩; have hr5 := row_al (row_on hb5 hr4 (lt_of_block hr4)) (devRow (s : Int) (o : Int) 2 a5 n c5); have hx5 := heap_alloc_new w5 (devRow (s : Int) (o : Int) 2 a5 n c5); have b5 := b4.trans (hb5.mono b4.size); have b5' := b5.alloc b5.size (devRow (s : Int) (o : Int) 2 a5 n c5); have hd5 := dice_alloc (dice_on hd4 hb5 (Nat.le_refl _)) (devRow (s : Int) (o : Int) 2 a5 n c5); have hg5 := dice_lt (dice_on hd4 hb5 (Nat.le_refl _)); have hg4' := dice_lt hd4; have n4 := lt_of_block hr4; have hz5' := hz5.cut.on (Agree.below ((Below.refl _ _).alloc (Nat.le_refl _) (devRow (s : Int) (o : Int) 2 a5 n c5))))))
  obtain ⟨X, hX⟩ : ∃ X, X = w5.heap.size := ⟨_, rfl⟩
  rw [← hX] at hx5
  have hzl0 : 0 ≤ zs.length := Nat.zero_le _
  have hst3 : stp3 zs 0 ≤ zs.length := stp3_end hzl0
  have hXg : g < X := by omega
  have hXw : w.heap.size < X := by omega
  have hcmd : ∀ F D a cap k W, (∀ b, F b → b < W.heap.size) → ¬ F g → ZonesIn W F a n cap D.zones → checkE D = 0 → Dice W (w.alloc (devRow 0 0 0 none 0 0)).heap.size g zs k → k < zs.length → Calls Try.prog 26 #[.pointer (some ⟨g, 0, none⟩), .agg #[.int .i64 D.size, .int .i64 D.maxOpen, .int .i64 D.maxActive, .slice a n cap], .int .i64 (n : Int)] W (CmdPost W F (w.alloc (devRow 0 0 0 none 0 0)).heap.size g zs k n) := fun F D a cap k W h1 h2 h3 h4 h5 h6 => command_any F D a n cap _ g zs k W h1 h2 h3 (by omega) (by omega) h4 h5 (by omega) h6
  unfold CmdPost at hcmd
  have HCM := Lib.hid hcmd
  have hrs : ∀ k W M, Dice W (w.alloc (devRow 0 0 0 none 0 0)).heap.size g zs k → k ≤ zs.length → zs.length - k = M → Calls Try.prog 25 #[.pointer (some ⟨g, 0, none⟩)] W fun e w' => e = .returned (.int .i64 (M : Int)) ∧ Dice w' (w.alloc (devRow 0 0 0 none 0 0)).heap.size g zs k ∧ W.grownBy w' (some g) ∧ w'.heap.size = W.heap.size := fun k W M h1 h2 h3 => by
    have := rest_any W _ g zs k h1 (by omega) h2
    rw [h3] at this
    exact this
  have HRS := Lib.hid hrs
  clear hcmd hrs
  rw [← hX]
  have HX := Lib.hid hX
  clear hX
  generalize hW5 : w5.alloc (devRow (s : Int) (o : Int) 2 a5 n c5) = w6 at *
  go_loopw [] (fun wr => ∃ (k : Nat) (D : Dev) (a : Option Addr) (cap : Nat), k ≤ zs.length ∧ Dice wr (w.alloc (devRow 0 0 0 none 0 0)).heap.size g zs k ∧ wr.heap[X]? = some (devRow D.size D.maxOpen D.maxActive a n cap) ∧ wr.heap[w.heap.size]? = some (devRow 0 0 0 none 0 0) ∧ ZonesIn wr (fun b => w.heap.size ≤ b ∧ b < wr.heap.size ∧ b ≠ g ∧ b ≠ X ∧ b ≠ w.heap.size) a n cap D.zones ∧ checkE D = 0 ∧ Below w.heap.size w wr) (fun wr => zs.length - (intOf ((wr.cell? ⟨g, 1, none⟩).getD undef)).toNat)
  case atStart =>
    refine ⟨_, ⟨(s : Int), (o : Int), 2, List.replicate n empty⟩, a5, c5, hst3, hd5, hx5, hr5, hz5'.mono ?_, HC.out, b5'⟩
    rintro b hb ⟨h | h, h2⟩
    · exact h.elim
    · have hX := HX.out
      exact ⟨by omega, hb, by omega, by omega, by omega⟩
  case round =>
    obtain ⟨k, D, a, cap, hk, hdd, hx, hr, hz, hc, hb⟩ := hrel
    obtain ⟨ds, do', da, DZ⟩ := D
    try simp only at hx hz
    have hgl := dice_lt hdd
    have hgr := lt_of_block hx
    by_cases hlt : k < zs.length
    · obtain ⟨M, hM⟩ : ∃ M, zs.length - k = M := ⟨_, rfl⟩
      have hM0 : 0 < M := by omega
      have hM1 : (0 : Int) < (M : Int) := by omega
      have hcell := dice_cell hdd
      have HM := Lib.hid hM
      clear hM
      go_wp2_with (first
        | (go_at_call 25; ((with_reducible refine (HRS.out k _ M hdd hk HM.out).mono ?_); rintro e w7 ⟨rfl, hd7, hg7, hs7⟩; have hx7 := row_grown hg7 hx (by omega); have hr7 := row_grown hg7 hr (by omega); have hz7 := hz.on (agree_grown hg7 (fun h => h.2.2.1 rfl)); have b7 := below_of_grown hb hg7 (by omega) hb.size; obtain ⟨y7, d0, d1, d2, d3⟩ := row4 hx7))
        | (go_at_call 26; have hFb : ∀ b, (fun b => w.heap.size ≤ b ∧ b < wr.heap.size ∧ b ≠ g ∧ b ≠ X ∧ b ≠ w.heap.size) b → b < w7.heap.size := (fun b h => by have := h.2.1; omega); have hFg : ¬ (fun b => w.heap.size ≤ b ∧ b < wr.heap.size ∧ b ≠ g ∧ b ≠ X ∧ b ≠ w.heap.size) g := (fun h => h.2.2.1 rfl); ((with_reducible refine (HCM.out (fun b => w.heap.size ≤ b ∧ b < wr.heap.size ∧ b ≠ g ∧ b ≠ X ∧ b ≠ w.heap.size) ⟨ds, do', da, DZ⟩ a cap k w7 hFb hFg hz7 hc hd7 hlt).mono ?_); rintro e w8 ⟨⟨es, eo, ea, EZ⟩, a8, cap8, k8, rfl, hz8, hc8, hk8, hk8', hd8, hg8⟩; have hx8 := row_grown hg8 hx7 (by omega); have hr8 := row_grown hg8 hr7 (by omega); have b8 := below_of_grown b7 hg8 (by omega) b7.size; have n8 := lt_of_block hx8))
        | ((with_reducible refine Plan.store_lit 24 (.tmp 5) _ X ?_ hx8 ?_ ?_ ?_ ?_ ?_ ?_); rotate_left; (· rfl); (· rfl); (· exact dev_info); (· rfl); (· simp [Value.oneCell']); simp only [Act.put]))
      have hd9 := dice_far hd8 (grownBy_setRow w8 X #[.int .i64 es, .int .i64 eo, .int .i64 ea, .slice a8 n cap8]) hXg
      have hz9 := hz8.on (Agree.row (r := X) (by rintro (h | h); (· exact h.2.2.2.1 rfl); (· omega)) #[.int .i64 es, .int .i64 eo, .int .i64 ea, .slice a8 n cap8])
      have hr9 := (setRow_other w8 X w.heap.size #[.int .i64 es, .int .i64 eo, .int .i64 ea, .slice a8 n cap8] (by omega)).trans hr8
      have b9 := below_setRow b8 (show w.heap.size ≤ X by omega) #[.int .i64 es, .int .i64 eo, .int .i64 ea, .slice a8 n cap8]
      have hx9 := setRow_heap w8 X _ #[.int .i64 es, .int .i64 eo, .int .i64 ea, .slice a8 n cap8] _ _ hx8
      have hcell9 := dice_cell hd9
      have n7 := b7.size
      go_roundw
      case rel =>
        refine ⟨k8, ⟨es, eo, ea, EZ⟩, a8, cap8, hk8', hd9, hx9, hr9, hz9.mono ?_, hc8, b9⟩
        rintro b hb9 (h | h)
        · exact ⟨h.1, hb9, h.2.2.1, h.2.2.2.1, h.2.2.2.2⟩
        · exact ⟨by omega, hb9, by omega, by omega, by omega⟩
      case measure =>
        rw [hcell9, hcell]
        simp [intOf]
        omega
    · obtain rfl : k = zs.length := by omega
      have hM : zs.length - zs.length = 0 := Nat.sub_self _
      have HM := Lib.hid hM
      clear hM
      go_wp2_with (first
        | (go_at_call 25; ((with_reducible refine (HRS.out zs.length _ 0 hdd hk HM.out).mono ?_); rintro e w7 ⟨rfl, hd7, hg7, hs7⟩; have hx7 := row_grown hg7 hx (by omega); have hr7 := row_grown hg7 hr (by omega); have hz7 := hz.on (agree_grown hg7 (fun h => h.2.2.1 rfl)); have b7 := below_of_grown hb hg7 (by omega) hb.size; obtain ⟨y7, d0, d1, d2, d3⟩ := row4 hx7))
        | ((with_reducible refine Plan.store_lit 24 (.tmp 2) _ w.heap.size ?_ hr7 ?_ ?_ ?_ ?_ ?_ ?_); rotate_left; (· rfl); (· rfl); (· exact dev_info); (· rfl); (· simp [Value.oneCell']); simp only [Act.put]))
      have b8 := below_setRow b7 (Nat.le_refl _) #[.int .i64 ds, .int .i64 do', .int .i64 da, .slice a n cap]
      have hz8 := hz7.on (Agree.row (r := w.heap.size) (fun h => h.2.2.2.2 rfl) #[.int .i64 ds, .int .i64 do', .int .i64 da, .slice a n cap])
      exact bodyPost_ret (results_cell_row rfl _ _ _ _ _ _ _ rfl (setRow_heap _ _ _ _ _ _ hr7) Try.underlying24 rfl dev_info) rfl ⟨⟨ds, do', da, DZ⟩, a, n, cap, rfl, hz8.mono (fun _ _ h => h.1), hc, hn25.1, hn25.2, b8⟩
end Go.Proofs.Ytlplomofgbmgaaa

/- The walks of the program's each with the closures of Sync and of Crash, and of Sync and Crash. -/
namespace Go.Proofs.Ytlplomofgbmgaaa
open Go.RowKit Plan ZnsMath MedMath

/-- what Sync and Crash leave -/
abbrev MedPost (w : World) (F : Nat → Prop) (len : Nat) (D R : Dev) (e : Ending) (w' : World) : Prop := DevPost w F (if checkE D = 0 then len else 0) R (checkE D) e w'
theorem made_owns {w : World} {g n : Nat} (h : w.ownsRow g 28 3 (.slice (some ⟨g, 0, none⟩) n n) n (madeCells (Value.agg #[.int .i64 0, .int .i64 0, .slice none 0 0]).cells (n * 3)).toList) : w.ownsRow g 28 3 (.slice (some ⟨g, 0, none⟩) n n) n (madeCells #[.int .i64 0, .int .i64 0, .slice none 0 0] (n * 3)).toList := h
theorem each_put {w w5 : World} {F : Nat → Prop} {B g n c j : Nat} {C : List Value} {Z : List Zone} {st du : Int} {L : List ByteArray} {sa : Option Addr} {sl sc : Nat} {o0 o1 : Obj}
    (q0 : w5.heap[w.heap.size]? = some o0) (q1 : w5.heap[w.heap.size + 1]? = some o1) (hg : w.heap.size + 1 < g) (hF : ¬ F g)
    (ho : w5.ownsRow B 28 3 (.slice (some ⟨g, 0, none⟩) n c) n C) (hz : ZCells w5 F C Z) (hj : j < Z.length) (hs : StrsIn w5 F sa sl sc L) (b5 : Below w.heap.size w w5) (w9 : World)
    (e : w9 = w5.setCells g (j * 3) [.int .i64 st, .int .i64 du, .slice sa sl sc]) :
    (∃ C', w9.ownsRow B 28 3 (.slice (some ⟨g, 0, none⟩) n c) n C' ∧ ZCells w9 F C' (Z.set j ⟨st, du, L⟩)) ∧ w9.heap[w.heap.size]? = some o0 ∧ w9.heap[w.heap.size + 1]? = some o1 ∧ Below w.heap.size w w9 := by
  have e : w9 = ((w5.setCell ⟨g, j * 3, none⟩ (.int .i64 st)).setCell ⟨g, j * 3 + 1, none⟩ (.int .i64 du)).setCell ⟨g, j * 3 + 1 + 1, none⟩ (.slice sa sl sc) := e
  have o9 := owns_cell (owns_cell (owns_cell ho (j * 3) (.int .i64 st)) (j * 3 + 1) (.int .i64 du)) (j * 3 + 1 + 1) (.slice sa sl sc)
  have b9 := ((b5.setCell (show w.heap.size ≤ (⟨g, j * 3, none⟩ : Addr).block by show w.heap.size ≤ g; omega) (.int .i64 st)).setCell (show w.heap.size ≤ (⟨g, j * 3 + 1, none⟩ : Addr).block by show w.heap.size ≤ g; omega) (.int .i64 du)).setCell (show w.heap.size ≤ (⟨g, j * 3 + 1 + 1, none⟩ : Addr).block by show w.heap.size ≤ g; omega) (.slice sa sl sc)
  have z9 := (((hz.set j hj ⟨st, du, L⟩ hs).on (Agree.setCell (p := ⟨g, j * 3, none⟩) hF (.int .i64 st))).on (Agree.setCell (p := ⟨g, j * 3 + 1, none⟩) hF (.int .i64 du))).on (Agree.setCell (p := ⟨g, j * 3 + 1 + 1, none⟩) hF (.slice sa sl sc))
  have hfar : ∀ k, k ≠ g → (((w5.setCell ⟨g, j * 3, none⟩ (.int .i64 st)).setCell ⟨g, j * 3 + 1, none⟩ (.int .i64 du)).setCell ⟨g, j * 3 + 1 + 1, none⟩ (.slice sa sl sc)).heap[k]? = w5.heap[k]? := fun k hk =>
    (Below.heap_setCell _ _ _ k hk).trans ((Below.heap_setCell _ _ _ k hk).trans (Below.heap_setCell _ _ _ k hk))
  rw [← e] at o9 b9 z9 hfar
  exact ⟨⟨_, o9, z9⟩, (hfar _ (by omega)).trans q0, (hfar _ (by omega)).trans q1, b9⟩
theorem each_end {w wr : World} {F : Nat → Prop} {B g n c : Nat} {C : List Value} {Z : List Zone} {o1 : Obj}
    (q1 : wr.heap[w.heap.size + 1]? = some o1) (hg : w.heap.size + 1 < g) (hF : ∀ b, F b → b < w.heap.size)
    (ho : wr.ownsRow B 28 3 (.slice (some ⟨g, 0, none⟩) n c) n C) (hz : ZCells wr F C Z) (b : Below w.heap.size w wr) (u : Value) :
    (wr.setCell ⟨w.heap.size, 3, none⟩ u).heap[w.heap.size + 1]? = some o1 ∧ ∀ cs, ZonesIn ((wr.setCell ⟨w.heap.size, 3, none⟩ u).setRow (w.heap.size + 1) cs) (Plus F w.heap.size) (some ⟨g, 0, none⟩) n c Z ∧ Below w.heap.size w ((wr.setCell ⟨w.heap.size, 3, none⟩ u).setRow (w.heap.size + 1) cs) := by
  refine ⟨(Below.heap_setCell wr ⟨w.heap.size, 3, none⟩ u (w.heap.size + 1) (show w.heap.size + 1 ≠ w.heap.size by omega)).trans q1, fun cs => ?_⟩
  have b9 := below_setRow (b.setCell (show w.heap.size ≤ (⟨w.heap.size, 3, none⟩ : Addr).block from Nat.le_refl _) u) (show w.heap.size ≤ w.heap.size + 1 by omega) cs
  refine ⟨?_, b9⟩
  have z9 := (hz.on (Agree.setCell (p := ⟨w.heap.size, 3, none⟩) (fun h => Nat.lt_irrefl _ (hF _ h)) u)).on (Agree.row (r := w.heap.size + 1) (fun h => by have := hF _ h; omega) cs)
  have o9 := owns_other (H := w.heap.size + 1) (cs := cs) (ownsRow_setCell_other ho (a := ⟨w.heap.size, 3, none⟩) (fun e => by have := Option.some.inj (show some g = some w.heap.size from e); omega) u) (by omega)
  obtain ⟨-, a', cap', heq, h⟩ := owns_zones (F := Plus F w.heap.size) o9 (z9.mono (fun _ _ hb => .inl hb)) (fun b e => .inr (by have := Option.some.inj (show some g = some b from e); omega))
  cases heq
  exact h

set_option maxHeartbeats 2000000 in
set_option maxRecDepth 20000 in
theorem eachSync_any (F : Nat → Prop) (D : Dev) (a : Option Addr) (len cap : Nat) (w : World) (hF : ∀ b, F b → b < w.heap.size) (hz : ZonesIn w F a len cap D.zones) :
    Calls Try.prog 27 #[devV D a len cap, .func (Fn.func 31) #[] #[]] w (MedPost w F len D (if checkE D = 0 then ⟨D.size, D.maxOpen, D.maxActive, D.zones.mapIdx syncZ⟩ else zero)) := by
  have hl := hz.is.length
  have hck := fun W (h : Below w.heap.size w W) => check_zns D a len cap W (hz.is.on h (Nat.le_refl _))
  have hA := ((Below.refl w.heap.size w).alloc (Nat.le_refl _) (devRow D.size D.maxOpen D.maxActive a len cap)).alloc (by simp) (devRow 0 0 0 none 0 0)
  have hx0 := heap_first2 w (devRow D.size D.maxOpen D.maxActive a len cap) (devRow 0 0 0 none 0 0)
  have hr0 := heap_second w (devRow D.size D.maxOpen D.maxActive a len cap) (devRow 0 0 0 none 0 0)
  unfold MedPost DevPost
  by_cases hE : checkE D = 0
  · rw [if_pos hE, if_pos hE]
    rw [hE] at hck ⊢
    obtain ⟨h1, h2, -, -⟩ := check_parts hE
    have hp := config_parts h1
    have hn1 : 1 ≤ len := by omega
    have hn2 : len ≤ 32 := by omega
    obtain ⟨x, rfl⟩ : ∃ x, a = some x := by
      rcases hz with ⟨_, rfl, _, _⟩ | ⟨x, rfl, _⟩
      · omega
      · exact ⟨x, rfl⟩
    have hzo : ∀ W, Below w.heap.size w W → ∀ j, j < len → ∃ z sa sl sc, D.zones[j]? = some z ∧ ZoneAt W x j z sa sl sc ∧ StrsIn W F sa sl sc z.sectors := fun W h j hj => by
      obtain ⟨x', z, sa, sl, sc, hx', k1, k2, k3⟩ := (hz.on (Agree.below (F := F) h)).zone j hj
      obtain rfl := Option.some.inj hx'
      exact ⟨z, sa, sl, sc, k1, k2, k3⟩
    have hcl : ∀ W, Below w.heap.size w W → ∀ (j : Nat) z sa sl sc, D.zones[j]? = some z → StrsIn W F sa sl sc z.sectors → Calls Try.prog 31 #[.int .i64 (j : Int), zoneV z sa sl sc] W fun e w' => ∃ tl tc, e = .returned (zoneV (syncZ j z) sa tl tc) ∧ StrsIn w' F sa tl tc (syncZ j z).sectors ∧ Below W.heap.size W w' := by
      intro W hW j z sa sl sc hzk hss
      refine (syncZone_any (j : Int) z sa sl sc W hss.1.length).mono ?_
      rintro e w' ⟨rfl, hb⟩
      exact ⟨sl, sc, rfl, hss.on (Agree.below hb), hb⟩
    have hF1 : ∀ n, w.heap.size ≤ n → ¬ F n := fun n h hf => by have := hF n hf; omega
    obtain ⟨i1, hi1, hy0, hy1, hy2⟩ := info_parts zone_info6
    have HC := Lib.hid hck
    have HZ := Lib.hid hzo
    have HCL := Lib.hid hcl
    have HF := Lib.hid hF
    have HF1 := Lib.hid hF1
    clear hck hzo hcl hz hE hF hF1 h1 h2
    obtain ⟨size, op, act, Z⟩ := D
    try simp only at hl hx0 hr0 hA hp HC HZ HCL
    generalize hg : syncZ = G at *
    clear hg
    have HP := Lib.hid hp
    clear hp
    go_enter Try.func27, Try.ntmps27
    generalize hw0 : (w.alloc (devRow size op act (some x) len cap)).alloc (devRow 0 0 0 none 0 0) = w0 at *
    obtain ⟨y0, d0, d1, d2, d3⟩ := row4 hx0
    have n0 := lt_of_block hr0
    go_wp2_with (first
      | (go_at_call 42; ((with_reducible refine (HC.out _ hA).mono ?_); rintro e w1 ⟨rfl, hb1⟩; have hx1 := row_on hb1 hx0 (lt_of_block hx0); have hr1 := row_on hb1 hr0 (lt_of_block hr0); have b1 := hA.trans (hb1.mono hA.size); have n1 := hb1.size; clear d0 d1 d2 d3; obtain ⟨y1, d0, d1, d2, d3⟩ := row4 hx1))
      | (at_make; refine wpList_make_full _ rfl _ _ 22 rfl w1.heap.size 28 i1 _ 3 Try.underlying22 hi1 hy0 hy1 .i64 .i64 (len : Int) (len : Int) len rfl rfl rfl rfl (by rw [hy2]; omega) (by unfold maxLen; omega) (Nat.le_refl _) ?_; intro w2 hown2 hgrow2; have O2 := made_owns hown2; have Z2 := made_cells w2 F len; have hx2 := (hgrow2.block w.heap.size (lt_of_block hx1) (by simp)).trans hx1; have hr2 := (hgrow2.block (w.heap.size + 1) (lt_of_block hr1) (by simp)).trans hr1; have b2 := b1.grown hgrow2 b1.size (fun k hk => by cases hk); obtain ⟨y2, d0, d1, d2, d3⟩ := row4 hx2; clear hown2 hgrow2))
    have hgH : w.heap.size + 1 < w1.heap.size := by omega
    generalize w1.heap.size = H at *
    go_loopw [23] (fun c wr => ∃ (j : Nat) (C : List Value), c = .int .i64 j ∧ j ≤ len ∧ wr.ownsRow H 28 3 (.slice (some ⟨H, 0, none⟩) len len) len C ∧ ZCells wr F C (partZ G Z (List.replicate len empty) j) ∧ wr.heap[w.heap.size]? = some (devRow size op act (some x) len cap) ∧ wr.heap[w.heap.size + 1]? = some (devRow 0 0 0 none 0 0) ∧ Below w.heap.size w wr) (fun c _ => len - (intOf c).toNat)
    case atStart => exact ⟨0, _, rfl, by omega, O2, by rw [partZ_zero]; exact Z2, hx2, hr2, b2⟩
    case round =>
      obtain ⟨j, C, rfl, hj, hown, hzc, hx, hr, hb⟩ := hrel
      clear d0 d1 d2 d3
      obtain ⟨yv, d0, d1, d2, d3⟩ := row4 hx
      by_cases hlt : j < len
      · obtain ⟨z, sa, sl, sc, hzk, hza, hss⟩ := HZ.out wr hb j hlt
        have hjI : (j : Int) < (len : Int) := by omega
        obtain ⟨zc0, zc1, zc2⟩ := hza
        have b1 := hb.alloc hb.size (zoneRow z.state z.durable sa sl sc)
        have hcall := HCL.out _ b1 j z sa sl sc hzk (hss.on (Agree.below ((Below.refl _ _).alloc (Nat.le_refl _) (zoneRow z.state z.durable sa sl sc))))
        have hnx := partZ_next G (Y := List.replicate len empty) (by rw [List.length_replicate]; exact hl.symm) hzk
        have hpl := partZ_length G (Z := Z) (Y := List.replicate len empty) (by rw [List.length_replicate]; exact hl.symm) j
        have hown1 := zowns_on hown ((Below.refl _ _).alloc (Nat.le_refl _) (zoneRow z.state z.durable sa sl sc))
        have hzc1 := hzc.on (Agree.below ((Below.refl _ _).alloc (Nat.le_refl _) (zoneRow z.state z.durable sa sl sc)))
        have hx1 := row_al hx (zoneRow z.state z.durable sa sl sc)
        have hr1 := row_al hr (zoneRow z.state z.durable sa sl sc)
        generalize G j z = y at hcall hnx
        obtain ⟨st, du, L⟩ := z
        obtain ⟨ys, yd, YL⟩ := y
        have HCALL := Lib.hid hcall
        clear hcall
        go_wp2_with (first
          | (go_at_call 31; ((with_reducible refine HCALL.out.mono ?_); rintro e w4 ⟨tl, tc, rfl, hss4, hb4⟩; have hown4 := zowns_on hown1 hb4; have hzc4 := hzc1.on (Agree.below hb4); have hx4 := row_on hb4 hx1 (lt_of_block hx1); have hr4 := row_on hb4 hr1 (lt_of_block hr1); have b4 := b1.trans (hb4.mono b1.size); have T8 := put_there hown4 hzc4 (show j < _ by rw [hpl]; omega); have E9 := Lib.hid (each_put (st := ys) (du := yd) hx4 hr4 hgH (HF1.out H (by omega)) hown4 hzc4 (show j < _ by rw [hpl]; omega) hss4 b4)))
          | ((with_reducible refine idx_store_zone 22 28 34 (.tmp 28) (.tmp 29) (.tmp 33) H (j * 3) (.int .i64 ys) (.int .i64 yd) (.slice sa tl tc) ?_ ?_ ?_ T8 ?_ ?_ ?_); (· go_simp); (· rfl); (· rfl); (· exact zone_info); (· simp [Value.oneCell']); intro w9 e9; obtain ⟨⟨C9, O9, Z9⟩, hx9, hr9, b9⟩ := E9.out w9 e9; clear e9; simp only [Act.put, List.setIfInBounds_toArray, List.set_cons_zero, List.set_cons_succ]))
        rw [hnx] at Z9
        go_roundw
        case rel => exact ⟨j + 1, _, by go_num, by omega, O9, Z9, hx9, hr9, b9⟩
        case measure => simp [intOf]; omega
      · obtain rfl : j = len := by omega
        rw [partZ_all G Z _ hl (by simp)] at hzc
        have E9 := Lib.hid (each_end hr hgH HF.out hown hzc hb)
        have n2 := fun u => (E9.out u).1
        have f3 := row_free hx 3
        go_wp2_with (first
          | ((with_reducible refine Plan.store_lit 24 (.tmp 4) _ (w.heap.size + 1) ?_ (n2 _) ?_ ?_ ?_ ?_ ?_ ?_); rotate_left; (· rfl); (· rfl); (· exact dev_info); (· rfl); (· simp [Value.oneCell']); simp only [Act.put]))
        exact bodyPost_ret (Plan.results_cell_tmp (p := 4) (q := 5) rfl _ _ _ _ _ _ _ rfl (setRow_heap _ _ _ _ _ _ (n2 _)) Try.underlying24 rfl dev_info) rfl ⟨_, _, rfl, ((E9.out _).2 _).1, ((E9.out _).2 _).2⟩
  · rw [if_neg hE, if_neg hE]
    have hE1 : (checkE D != 0) = true := by simp [hE]
    generalize checkE D = E at *
    have HC := Lib.hid hck
    clear hck hz hE
    obtain ⟨size, op, act, Z⟩ := D
    try simp only at hl hx0 hr0 hA HC
    go_enter Try.func27, Try.ntmps27
    generalize hw0 : (w.alloc (devRow size op act a len cap)).alloc (devRow 0 0 0 none 0 0) = w0 at *
    obtain ⟨y0, d0, d1, d2, d3⟩ := row4 hx0
    have n0 := lt_of_block hr0
    go_wp2_with (first
      | (go_at_call 42; ((with_reducible refine (HC.out _ hA).mono ?_); rintro e w1 ⟨rfl, hb1⟩; have hr1 := row_on hb1 hr0 (lt_of_block hr0); have b1 := hA.trans (hb1.mono hA.size)))
      | ((with_reducible refine Plan.store_lit 24 (.tmp 4) _ (w.heap.size + 1) ?_ hr1 ?_ ?_ ?_ ?_ ?_ ?_); rotate_left; (· rfl); (· rfl); (· exact dev_info); (· rfl); (· simp [Value.oneCell']); simp only [Act.put]))
    exact bodyPost_ret (Plan.results_cell_tmp (p := 4) (q := 5) rfl _ _ _ _ _ _ _ rfl (setRow_heap _ _ _ _ _ _ hr1) Try.underlying24 rfl dev_info) rfl ⟨none, 0, rfl, .inl ⟨rfl, rfl, rfl, rfl⟩, below_setRow b1 (show w.heap.size ≤ w.heap.size + 1 by omega) _⟩

set_option maxHeartbeats 2000000 in
set_option maxRecDepth 20000 in
theorem eachCrash_any (F : Nat → Prop) (D : Dev) (a : Option Addr) (len cap : Nat) (zs keep : List Int) (ka : Option Addr) (kl kc g : Nat) (w : World) (hF : ∀ b, F b → b < w.heap.size) (hz : ZonesIn w F a len cap D.zones) (hg : w.heap[g]? = some (keepRow ka kl kc)) (hk : IsRow .i64 w ka kl kc zs) (hzk : zs.take kl = keep) :
    Calls Try.prog 27 #[devV D a len cap, .func (Fn.func 28) #[] #[.pointer (some ⟨g, 0, none⟩)]] w (MedPost w F len D (if checkE D = 0 then ⟨D.size, D.maxOpen, D.maxActive, D.zones.mapIdx (crashZ keep)⟩ else zero)) := by
  have hl := hz.is.length
  have hck := fun W (h : Below w.heap.size w W) => check_zns D a len cap W (hz.is.on h (Nat.le_refl _))
  have hA := ((Below.refl w.heap.size w).alloc (Nat.le_refl _) (devRow D.size D.maxOpen D.maxActive a len cap)).alloc (by simp) (devRow 0 0 0 none 0 0)
  have hx0 := heap_first2 w (devRow D.size D.maxOpen D.maxActive a len cap) (devRow 0 0 0 none 0 0)
  have hr0 := heap_second w (devRow D.size D.maxOpen D.maxActive a len cap) (devRow 0 0 0 none 0 0)
  unfold MedPost DevPost
  by_cases hE : checkE D = 0
  · rw [if_pos hE, if_pos hE]
    rw [hE] at hck ⊢
    obtain ⟨h1, h2, -, -⟩ := check_parts hE
    have hp := config_parts h1
    have hn1 : 1 ≤ len := by omega
    have hn2 : len ≤ 32 := by omega
    obtain ⟨x, rfl⟩ : ∃ x, a = some x := by
      rcases hz with ⟨_, rfl, _, _⟩ | ⟨x, rfl, _⟩
      · omega
      · exact ⟨x, rfl⟩
    have hzo : ∀ W, Below w.heap.size w W → ∀ j, j < len → ∃ z sa sl sc, D.zones[j]? = some z ∧ ZoneAt W x j z sa sl sc ∧ StrsIn W F sa sl sc z.sectors := fun W h j hj => by
      obtain ⟨x', z, sa, sl, sc, hx', k1, k2, k3⟩ := (hz.on (Agree.below (F := F) h)).zone j hj
      obtain rfl := Option.some.inj hx'
      exact ⟨z, sa, sl, sc, k1, k2, k3⟩
    have hcl : ∀ W, Below w.heap.size w W → ∀ (j : Nat) z sa sl sc, D.zones[j]? = some z → StrsIn W F sa sl sc z.sectors → Calls Try.prog 28 #[.int .i64 (j : Int), zoneV z sa sl sc, .pointer (some ⟨g, 0, none⟩)] W fun e w' => ∃ tl tc, e = .returned (zoneV ((crashZ keep) j z) sa tl tc) ∧ StrsIn w' F sa tl tc ((crashZ keep) j z).sectors ∧ Below W.heap.size W w' := by
      intro W hW j z sa sl sc hzj hss
      have hrz := right_all h2 hzj
      have hst := stays_eq hrz (by omega) keep j
      have hsl := hss.1.length
      refine (crashZone_any zs keep ka kl kc g j z D.size sa sl sc W (row_on hW hg (lt_of_block hg)) (row_keep hk hW) hzk hss.1 hrz (by omega)).mono ?_
      rintro e w' ⟨rfl, hb⟩
      exact ⟨_, _, rfl, strs_take (hss.on (Agree.below hb)) _ (by omega), hb⟩
    clear hg hk hzk
    have hF1 : ∀ n, w.heap.size ≤ n → ¬ F n := fun n h hf => by have := hF n hf; omega
    obtain ⟨i1, hi1, hy0, hy1, hy2⟩ := info_parts zone_info6
    have HC := Lib.hid hck
    have HZ := Lib.hid hzo
    have HCL := Lib.hid hcl
    have HF := Lib.hid hF
    have HF1 := Lib.hid hF1
    clear hck hzo hcl hz hE hF hF1 h1 h2
    obtain ⟨size, op, act, Z⟩ := D
    try simp only at hl hx0 hr0 hA hp HC HZ HCL
    generalize hgg : (crashZ keep) = G at *
    clear hgg
    have HP := Lib.hid hp
    clear hp
    go_enter Try.func27, Try.ntmps27
    generalize hw0 : (w.alloc (devRow size op act (some x) len cap)).alloc (devRow 0 0 0 none 0 0) = w0 at *
    obtain ⟨y0, d0, d1, d2, d3⟩ := row4 hx0
    have n0 := lt_of_block hr0
    go_wp2_with (first
      | (go_at_call 42; ((with_reducible refine (HC.out _ hA).mono ?_); rintro e w1 ⟨rfl, hb1⟩; have hx1 := row_on hb1 hx0 (lt_of_block hx0); have hr1 := row_on hb1 hr0 (lt_of_block hr0); have b1 := hA.trans (hb1.mono hA.size); have n1 := hb1.size; clear d0 d1 d2 d3; obtain ⟨y1, d0, d1, d2, d3⟩ := row4 hx1))
      | (at_make; refine wpList_make_full _ rfl _ _ 22 rfl w1.heap.size 28 i1 _ 3 Try.underlying22 hi1 hy0 hy1 .i64 .i64 (len : Int) (len : Int) len rfl rfl rfl rfl (by rw [hy2]; omega) (by unfold maxLen; omega) (Nat.le_refl _) ?_; intro w2 hown2 hgrow2; have O2 := made_owns hown2; have Z2 := made_cells w2 F len; have hx2 := (hgrow2.block w.heap.size (lt_of_block hx1) (by simp)).trans hx1; have hr2 := (hgrow2.block (w.heap.size + 1) (lt_of_block hr1) (by simp)).trans hr1; have b2 := b1.grown hgrow2 b1.size (fun k hk => by cases hk); obtain ⟨y2, d0, d1, d2, d3⟩ := row4 hx2; clear hown2 hgrow2))
    have hgH : w.heap.size + 1 < w1.heap.size := by omega
    generalize w1.heap.size = H at *
    go_loopw [23] (fun c wr => ∃ (j : Nat) (C : List Value), c = .int .i64 j ∧ j ≤ len ∧ wr.ownsRow H 28 3 (.slice (some ⟨H, 0, none⟩) len len) len C ∧ ZCells wr F C (partZ G Z (List.replicate len empty) j) ∧ wr.heap[w.heap.size]? = some (devRow size op act (some x) len cap) ∧ wr.heap[w.heap.size + 1]? = some (devRow 0 0 0 none 0 0) ∧ Below w.heap.size w wr) (fun c _ => len - (intOf c).toNat)
    case atStart => exact ⟨0, _, rfl, by omega, O2, by rw [partZ_zero]; exact Z2, hx2, hr2, b2⟩
    case round =>
      obtain ⟨j, C, rfl, hj, hown, hzc, hx, hr, hb⟩ := hrel
      clear d0 d1 d2 d3
      obtain ⟨yv, d0, d1, d2, d3⟩ := row4 hx
      by_cases hlt : j < len
      · obtain ⟨z, sa, sl, sc, hzk, hza, hss⟩ := HZ.out wr hb j hlt
        have hjI : (j : Int) < (len : Int) := by omega
        obtain ⟨zc0, zc1, zc2⟩ := hza
        have b1 := hb.alloc hb.size (zoneRow z.state z.durable sa sl sc)
        have hcall := HCL.out _ b1 j z sa sl sc hzk (hss.on (Agree.below ((Below.refl _ _).alloc (Nat.le_refl _) (zoneRow z.state z.durable sa sl sc))))
        have hnx := partZ_next G (Y := List.replicate len empty) (by rw [List.length_replicate]; exact hl.symm) hzk
        have hpl := partZ_length G (Z := Z) (Y := List.replicate len empty) (by rw [List.length_replicate]; exact hl.symm) j
        have hown1 := zowns_on hown ((Below.refl _ _).alloc (Nat.le_refl _) (zoneRow z.state z.durable sa sl sc))
        have hzc1 := hzc.on (Agree.below ((Below.refl _ _).alloc (Nat.le_refl _) (zoneRow z.state z.durable sa sl sc)))
        have hx1 := row_al hx (zoneRow z.state z.durable sa sl sc)
        have hr1 := row_al hr (zoneRow z.state z.durable sa sl sc)
        generalize G j z = y at hcall hnx
        obtain ⟨st, du, L⟩ := z
        obtain ⟨ys, yd, YL⟩ := y
        have HCALL := Lib.hid hcall
        clear hcall
        go_wp2_with (first
          | (go_at_call 28; ((with_reducible refine HCALL.out.mono ?_); rintro e w4 ⟨tl, tc, rfl, hss4, hb4⟩; have hown4 := zowns_on hown1 hb4; have hzc4 := hzc1.on (Agree.below hb4); have hx4 := row_on hb4 hx1 (lt_of_block hx1); have hr4 := row_on hb4 hr1 (lt_of_block hr1); have b4 := b1.trans (hb4.mono b1.size); have T8 := put_there hown4 hzc4 (show j < _ by rw [hpl]; omega); have E9 := Lib.hid (each_put (st := ys) (du := yd) hx4 hr4 hgH (HF1.out H (by omega)) hown4 hzc4 (show j < _ by rw [hpl]; omega) hss4 b4)))
          | ((with_reducible refine idx_store_zone 22 28 34 (.tmp 28) (.tmp 29) (.tmp 33) H (j * 3) (.int .i64 ys) (.int .i64 yd) (.slice sa tl tc) ?_ ?_ ?_ T8 ?_ ?_ ?_); (· go_simp); (· rfl); (· rfl); (· exact zone_info); (· simp [Value.oneCell']); intro w9 e9; obtain ⟨⟨C9, O9, Z9⟩, hx9, hr9, b9⟩ := E9.out w9 e9; clear e9; simp only [Act.put, List.setIfInBounds_toArray, List.set_cons_zero, List.set_cons_succ]))
        rw [hnx] at Z9
        go_roundw
        case rel => exact ⟨j + 1, _, by go_num, by omega, O9, Z9, hx9, hr9, b9⟩
        case measure => simp [intOf]; omega
      · obtain rfl : j = len := by omega
        rw [partZ_all G Z _ hl (by simp)] at hzc
        have E9 := Lib.hid (each_end hr hgH HF.out hown hzc hb)
        have n2 := fun u => (E9.out u).1
        have f3 := row_free hx 3
        go_wp2_with (first
          | ((with_reducible refine Plan.store_lit 24 (.tmp 4) _ (w.heap.size + 1) ?_ (n2 _) ?_ ?_ ?_ ?_ ?_ ?_); rotate_left; (· rfl); (· rfl); (· exact dev_info); (· rfl); (· simp [Value.oneCell']); simp only [Act.put]))
        exact bodyPost_ret (Plan.results_cell_tmp (p := 4) (q := 5) rfl _ _ _ _ _ _ _ rfl (setRow_heap _ _ _ _ _ _ (n2 _)) Try.underlying24 rfl dev_info) rfl ⟨_, _, rfl, ((E9.out _).2 _).1, ((E9.out _).2 _).2⟩
  · rw [if_neg hE, if_neg hE]
    have hE1 : (checkE D != 0) = true := by simp [hE]
    generalize checkE D = E at *
    have HC := Lib.hid hck
    clear hck hz hE hg hk hzk
    obtain ⟨size, op, act, Z⟩ := D
    try simp only at hl hx0 hr0 hA HC
    go_enter Try.func27, Try.ntmps27
    generalize hw0 : (w.alloc (devRow size op act a len cap)).alloc (devRow 0 0 0 none 0 0) = w0 at *
    obtain ⟨y0, d0, d1, d2, d3⟩ := row4 hx0
    have n0 := lt_of_block hr0
    go_wp2_with (first
      | (go_at_call 42; ((with_reducible refine (HC.out _ hA).mono ?_); rintro e w1 ⟨rfl, hb1⟩; have hr1 := row_on hb1 hr0 (lt_of_block hr0); have b1 := hA.trans (hb1.mono hA.size)))
      | ((with_reducible refine Plan.store_lit 24 (.tmp 4) _ (w.heap.size + 1) ?_ hr1 ?_ ?_ ?_ ?_ ?_ ?_); rotate_left; (· rfl); (· rfl); (· exact dev_info); (· rfl); (· simp [Value.oneCell']); simp only [Act.put]))
    exact bodyPost_ret (Plan.results_cell_tmp (p := 4) (q := 5) rfl _ _ _ _ _ _ _ rfl (setRow_heap _ _ _ _ _ _ hr1) Try.underlying24 rfl dev_info) rfl ⟨none, 0, rfl, .inl ⟨rfl, rfl, rfl, rfl⟩, below_setRow b1 (show w.heap.size ≤ w.heap.size + 1 by omega) _⟩
end Go.Proofs.Ytlplomofgbmgaaa

/- The walks of the program's Sync and Crash. -/
namespace Go.Proofs.Ytlplomofgbmgaaa
open Go.RowKit Plan ZnsMath MedMath

theorem sync_eq (D : Dev) : syncR D = if checkE D = 0 then ⟨D.size, D.maxOpen, D.maxActive, D.zones.mapIdx syncZ⟩ else zero := by
  unfold syncR durD
  rw [map_idx]
set_option maxHeartbeats 1000000 in
set_option maxRecDepth 20000 in
theorem sync_any (F : Nat → Prop) (D : Dev) (a : Option Addr) (len cap : Nat) (w : World) (hF : ∀ b, F b → b < w.heap.size) (hz : ZonesIn w F a len cap D.zones) :
    Calls Try.prog 13 #[devV D a len cap] w (MedPost w F len D (syncR D)) := by
  have hA := ((Below.refl w.heap.size w).alloc (Nat.le_refl _) (devRow D.size D.maxOpen D.maxActive a len cap)).alloc (by simp) (devRow 0 0 0 none 0 0)
  have hr0 := heap_second w (devRow D.size D.maxOpen D.maxActive a len cap) (devRow 0 0 0 none 0 0)
  have hx0 := heap_first2 w (devRow D.size D.maxOpen D.maxActive a len cap) (devRow 0 0 0 none 0 0)
  have hs0 : ((w.alloc (devRow D.size D.maxOpen D.maxActive a len cap)).alloc (devRow 0 0 0 none 0 0)).heap.size = w.heap.size + 2 := by simp
  have hea := eachSync_any F D a len cap ((w.alloc (devRow D.size D.maxOpen D.maxActive a len cap)).alloc (devRow 0 0 0 none 0 0)) (fun b hb => Nat.lt_of_lt_of_le (hF b hb) hA.size) (hz.on (Agree.below hA))
  rw [← sync_eq] at hea
  unfold MedPost DevPost at hea ⊢
  generalize (if checkE D = 0 then len else 0) = n at *
  generalize syncR D = R at *
  generalize checkE D = E at *
  obtain ⟨rs, ro, ra, RZ⟩ := R
  obtain ⟨size, op, act, Z⟩ := D
  try simp only at hea hx0 hr0 hA hs0
  have HE := Lib.hid hea
  have HF := Lib.hid hF
  clear hea hz hF
  go_enter Try.func13, Try.ntmps13
  generalize hw0 : (w.alloc (devRow size op act a len cap)).alloc (devRow 0 0 0 none 0 0) = w0 at *
  obtain ⟨y0, d0, d1, d2, d3⟩ := row4 hx0
  go_wp2_with (first
    | (go_at_call 27; ((with_reducible refine HE.out.mono ?_); rintro e w1 ⟨a1, c1, rfl, hz1, hb1⟩; have hr1 := row_on hb1 hr0 (lt_of_block hr0); have b1 := hA.trans (hb1.mono hA.size); have hz2 := fun cs => hz1.on (Agree.row (r := w.heap.size + 1) (by rintro (h | h); (· have := HF.out _ h; omega); (· omega)) cs)))
    | ((with_reducible refine Plan.store_lit 24 (.tmp 2) _ (w.heap.size + 1) ?_ hr1 ?_ ?_ ?_ ?_ ?_ ?_); rotate_left; (· rfl); (· rfl); (· exact dev_info); (· rfl); (· simp [Value.oneCell']); simp only [Act.put]))
  exact bodyPost_ret (Plan.results_cell_tmp (p := 2) (q := 3) rfl _ _ _ _ _ _ _ rfl (setRow_heap _ _ _ _ _ _ hr1) Try.underlying24 rfl dev_info) rfl ⟨_, _, rfl, (hz2 _).mono (fun _ _ h => by rcases h with h | h; (· exact .inl h); (· exact .inr (by omega))), below_setRow b1 (show w.heap.size ≤ w.heap.size + 1 by omega) _⟩
theorem crash_eq (D : Dev) (keep : List Int) : crashR D keep = if checkE D = 0 then ⟨D.size, D.maxOpen, D.maxActive, D.zones.mapIdx (crashZ keep)⟩ else zero := rfl
set_option maxHeartbeats 1000000 in
set_option maxRecDepth 20000 in
theorem crash_any (F : Nat → Prop) (D : Dev) (a : Option Addr) (len cap : Nat) (zs keep : List Int) (ka : Option Addr) (kl kc : Nat) (w : World) (hF : ∀ b, F b → b < w.heap.size) (hz : ZonesIn w F a len cap D.zones) (hk : IsRow .i64 w ka kl kc zs) (hzk : zs.take kl = keep) :
    Calls Try.prog 12 #[devV D a len cap, .slice ka kl kc] w (MedPost w F len D (crashR D keep)) := by
  have hA := (((Below.refl w.heap.size w).alloc (Nat.le_refl _) (devRow D.size D.maxOpen D.maxActive a len cap)).alloc (by simp) (keepRow ka kl kc)).alloc (by simp; omega) (devRow 0 0 0 none 0 0)
  have hr0 := heap_third w (devRow D.size D.maxOpen D.maxActive a len cap) (keepRow ka kl kc) (devRow 0 0 0 none 0 0)
  have hk0 := row_al (heap_second w (devRow D.size D.maxOpen D.maxActive a len cap) (keepRow ka kl kc)) (devRow 0 0 0 none 0 0)
  have hx0 := row_al (heap_first2 w (devRow D.size D.maxOpen D.maxActive a len cap) (keepRow ka kl kc)) (devRow 0 0 0 none 0 0)
  have hs0 : (((w.alloc (devRow D.size D.maxOpen D.maxActive a len cap)).alloc (keepRow ka kl kc)).alloc (devRow 0 0 0 none 0 0)).heap.size = w.heap.size + 3 := by simp
  have hea := eachCrash_any F D a len cap zs keep ka kl kc (w.heap.size + 1) (((w.alloc (devRow D.size D.maxOpen D.maxActive a len cap)).alloc (keepRow ka kl kc)).alloc (devRow 0 0 0 none 0 0)) (fun b hb => Nat.lt_of_lt_of_le (hF b hb) hA.size) (hz.on (Agree.below hA)) hk0 (row_keep hk hA) hzk
  rw [← crash_eq] at hea
  unfold MedPost DevPost at hea ⊢
  generalize (if checkE D = 0 then len else 0) = n at *
  generalize crashR D keep = R at *
  generalize checkE D = E at *
  obtain ⟨rs, ro, ra, RZ⟩ := R
  obtain ⟨size, op, act, Z⟩ := D
  try simp only at hea hx0 hr0 hA hs0 hk0
  have HE := Lib.hid hea
  have HF := Lib.hid hF
  clear hea hz hF hk hzk
  go_enter Try.func12, Try.ntmps12
  generalize hw0 : ((w.alloc (devRow size op act a len cap)).alloc (keepRow ka kl kc)).alloc (devRow 0 0 0 none 0 0) = w0 at *
  obtain ⟨y0, d0, d1, d2, d3⟩ := row4 hx0
  go_wp2_with (first
    | (go_at_call 27; ((with_reducible refine HE.out.mono ?_); rintro e w1 ⟨a1, c1, rfl, hz1, hb1⟩; have hr1 := row_on hb1 hr0 (lt_of_block hr0); have b1 := hA.trans (hb1.mono hA.size); have hz2 := fun cs => hz1.on (Agree.row (r := w.heap.size + 1 + 1) (by rintro (h | h); (· have := HF.out _ h; omega); (· omega)) cs)))
    | ((with_reducible refine Plan.store_lit 24 (.tmp 4) _ (w.heap.size + 1 + 1) ?_ hr1 ?_ ?_ ?_ ?_ ?_ ?_); rotate_left; (· rfl); (· rfl); (· exact dev_info); (· rfl); (· simp [Value.oneCell']); simp only [Act.put]))
  exact bodyPost_ret (Plan.results_cell_tmp (p := 4) (q := 5) rfl _ _ _ _ _ _ _ rfl (setRow_heap _ _ _ _ _ _ hr1) Try.underlying24 rfl dev_info) rfl ⟨_, _, rfl, (hz2 _).mono (fun _ _ h => by rcases h with h | h; (· exact .inl h); (· exact .inr (by omega))), below_setRow b1 (show w.heap.size ≤ w.heap.size + 1 + 1 by omega) _⟩
end Go.Proofs.Ytlplomofgbmgaaa

/- The walks of Volatile, the program's and the document's own. -/
namespace Go.Proofs.Ytlplomofgbmgaaa
open Go.RowKit Plan ZnsMath MedMath

theorem int_info6 : (Try.prog.info? 3).map (fun i => (i.zero, i.size, i.bytes)) = some (some (.int .i64 0), 1, 8) := by kernel_rfl
/-- a list of numbers in a block of its own -/
def Nums (w : World) (g : Nat) (L : List Int) : Prop := g < w.heap.size ∧ ∀ (i : Nat) v, L[i]? = some v → w.cell? ⟨g, i, none⟩ = some (.int .i64 v)
theorem Nums.on {w w' : World} {g : Nat} {L : List Int} (h : Nums w g L) (hb : Below w.heap.size w w') : Nums w' g L := ⟨Nat.lt_of_lt_of_le h.1 hb.size, fun i v hi => (hb.cell (p := ⟨g, i, none⟩) h.1).trans (h.2 i v hi)⟩
/-- what Volatile leaves -/
def VolPost (w : World) (len : Nat) (D : Dev) (e : Ending) (w' : World) : Prop :=
  ∃ g, e = .returned (.slice (some ⟨g, 0, none⟩) len len) ∧ w.heap.size ≤ g ∧ Nums w' g (volL D) ∧ Below w.heap.size w w'
/-- the numbers of the first zones lie there -/
def VolCells (C : List Value) (Z : List Zone) (j : Nat) : Prop := ∀ (i : Nat) z, i < j → Z[i]? = some z → C[i]? = some (.int .i64 (vol z))
theorem vol_next {C : List Value} {Z : List Zone} {j : Nat} {z : Zone} (h : VolCells C Z j) (hz : Z[j]? = some z) (hl : j < C.length) : VolCells (C.set j (.int .i64 (vol z))) Z (j + 1) := by
  intro i y hi hy
  by_cases hij : i = j
  · subst hij
    obtain rfl := Option.some.inj (hz.symm.trans hy)
    rw [List.getElem?_set_self hl]
  · rw [List.getElem?_set_ne (fun e => hij e.symm)]
    exact h i y (by omega) hy
theorem vol_end {w : World} {B H n : Nat} {C : List Value} {D : Dev} (ho : w.ownsRow B 3 1 (.slice (some ⟨H, 0, none⟩) n n) n C) (h : VolCells C D.zones n) (hl : D.zones.length = n) : Nums w H (volL D) := by
  refine ⟨(ho.lt H rfl).2, fun i v hi => ?_⟩
  unfold volL at hi
  rw [List.getElem?_map] at hi
  cases hz : D.zones[i]? with
  | none => rw [hz] at hi; cases hi
  | some z =>
    rw [hz] at hi
    obtain rfl := Option.some.inj hi
    have hlt := (List.getElem?_eq_some_iff.1 hz).1
    have := ho.cells (g := H) rfl _ _ (h i z (by omega) hz)
    rwa [add_lit0] at this
theorem owns_at {w : World} {B H n j : Nat} {C : List Value} (ho : w.ownsRow B 3 1 (.slice (some ⟨H, 0, none⟩) n n) n C) (hj : j < n) : j < C.length ∧ (∃ u, w.cell? ⟨H, j, none⟩ = some u) ∧ w.frozen? ⟨H, j, none⟩ = false := by
  have hl : C.length = n := by have := ho.1; omega
  refine ⟨by omega, ?_, owns_free5 ho j⟩
  have := ho.cells (g := H) rfl j C[j] (List.getElem?_eq_getElem _)
  rw [add_lit0] at this
  exact ⟨_, this⟩
set_option maxHeartbeats 1000000 in
set_option maxRecDepth 20000 in
theorem vols_any (D : Dev) (a : Option Addr) (len cap : Nat) (w : World) (hz : IsZones w a len cap D.zones) (hm : len ≤ 35184372088832) :
    Calls Try.prog 20 #[devV D a len cap] w (VolPost w len D) := by
  have hl := hz.length
  have hA := (Below.refl w.heap.size w).alloc (Nat.le_refl _) (devRow D.size D.maxOpen D.maxActive a len cap)
  have hx0 := heap_alloc_new w (devRow D.size D.maxOpen D.maxActive a len cap)
  have hat := fun W (h : Below w.heap.size w W) i (hi : i < len) => (hz.on h (Nat.le_refl _)).zone i hi
  obtain ⟨i1, hi1, hy0, hy1, hy2⟩ := info_parts int_info6
  unfold VolPost
  have HEND := Lib.hid (fun (W : World) (H : Nat) C (ho : W.ownsRow H 3 1 (.slice (some ⟨H, 0, none⟩) len len) len C) (h : VolCells C D.zones len) => vol_end ho h hl)
  have HA := Lib.hid hat
  clear hat hz
  generalize volL D = VL at *
  obtain ⟨size, op, act, Z⟩ := D
  try simp only at hl hx0 hA HEND HA
  go_enter Try.func20, Try.ntmps20
  generalize hw0 : w.alloc (devRow size op act a len cap) = w0 at *
  obtain ⟨y0, d0, d1, d2, d3⟩ := row4 hx0
  go_wp2_with (first
    | (at_make; refine wpList_make_full _ rfl _ _ 25 rfl w0.heap.size 3 i1 _ 1 Try.underlying25 hi1 hy0 hy1 .i64 .i64 (len : Int) (len : Int) len rfl rfl rfl rfl (by rw [hy2]; omega) (by unfold maxLen; omega) (Nat.le_refl _) ?_; intro w2 hown2 hgrow2; have hx2 := (hgrow2.block w.heap.size (lt_of_block hx0) (by simp)).trans hx0; have b2 := hA.grown hgrow2 hA.size (fun k hk => by cases hk); obtain ⟨y2, d0, d1, d2, d3⟩ := row4 hx2; clear hgrow2))
  have hgH : w.heap.size < w0.heap.size := y0
  generalize w0.heap.size = H at *
  go_loopw [13] (fun c wr => ∃ (j : Nat) (C : List Value), c = .int .i64 j ∧ j ≤ len ∧ wr.ownsRow H 3 1 (.slice (some ⟨H, 0, none⟩) len len) len C ∧ VolCells C Z j ∧ Below w.heap.size w wr) (fun c _ => len - (intOf c).toNat)
  case atStart => exact ⟨0, _, rfl, by omega, hown2, fun i z hi => absurd hi (Nat.not_lt_zero _), b2⟩
  case round =>
    obtain ⟨j, C, rfl, hj, hown, hvc, hb⟩ := hrel
    by_cases hlt : j < len
    · obtain ⟨x, z, sa, sl, sc, rfl, hzk, hza, hss⟩ := HA.out wr hb j hlt
      have hjI : (j : Int) < (len : Int) := by omega
      obtain ⟨zc0, zc1, zc2⟩ := hza
      have b1 := hb.alloc hb.size (zoneRow z.state z.durable sa sl sc)
      have hown1 := zowns_on hown ((Below.refl _ _).alloc (Nat.le_refl _) (zoneRow z.state z.durable sa sl sc))
      have hcall := fun W => volatile_any z sa sl sc W hss.length
      have hnx := vol_next hvc hzk (owns_at hown hlt).1
      generalize vol z = V at hcall hnx
      obtain ⟨st, du, L⟩ := z
      have HCALL := Lib.hid hcall
      clear hcall
      go_wp2_with (first
        | (go_at_call 29; ((with_reducible refine (HCALL.out _).mono ?_); rintro e w4 ⟨rfl, hb4⟩; have hown4 := zowns_on hown1 hb4; have b4 := b1.trans (hb4.mono b1.size); obtain ⟨-, ⟨u, e1⟩, f1⟩ := owns_at hown4 hlt)))
      have O9 := owns_cell hown4 j (.int .i64 V)
      have b9 := b4.setCell (show w.heap.size ≤ (⟨H, j, none⟩ : Addr).block by show w.heap.size ≤ H; omega) (.int .i64 V)
      go_roundw
      case rel => exact ⟨j + 1, _, by go_num, by omega, O9, hnx, b9⟩
      case measure => simp [intOf]; omega
    · obtain rfl : j = len := by omega
      go_wp2_with fail
      go_ret
      exact ⟨H, rfl, by omega, HEND.out wr H C hown hvc, hb⟩
theorem vol_ifs (sl du : Int) : (if 0 < IntKind.i64.wrap (sl - if 0 < du then du else 0) then IntKind.i64.wrap (sl - if 0 < du then du else 0) else 0) = max 0 (wrap64 (sl - max 0 du)) := by
  have e : (if 0 < du then du else 0) = max 0 du := by split <;> omega
  rw [e, IntKind.wrap_i64]
  unfold wrap64
  generalize (sl - max 0 du + 9223372036854775808) % 18446744073709551616 - 9223372036854775808 = W
  split <;> omega
set_option maxHeartbeats 2000000 in
set_option maxRecDepth 20000 in
theorem refVols_any (D : Dev) (a : Option Addr) (len cap : Nat) (w : World) (hz : IsZones w a len cap D.zones) (hm : len ≤ 35184372088832) :
    Calls Try.prog 21 #[devV D a len cap] w (VolPost w len D) := by
  have hl := hz.length
  have hA := (Below.refl w.heap.size w).alloc (Nat.le_refl _) (devRow D.size D.maxOpen D.maxActive a len cap)
  have hx0 := heap_alloc_new w (devRow D.size D.maxOpen D.maxActive a len cap)
  have hat := fun W (h : Below w.heap.size w W) i (hi : i < len) => (hz.on h (Nat.le_refl _)).zone i hi
  obtain ⟨i1, hi1, hy0, hy1, hy2⟩ := info_parts int_info6
  unfold VolPost
  have HEND := Lib.hid (fun (W : World) (H : Nat) C (ho : W.ownsRow H 3 1 (.slice (some ⟨H, 0, none⟩) len len) len C) (h : VolCells C D.zones len) => vol_end ho h hl)
  have HXB := Lib.hid (fun x (h : 0 < len) (e : a = some x) => (show x.block < w.heap.size from by
    obtain ⟨y, _, _, _, _, e2, _, hza, _⟩ := hz.zone 0 h
    obtain rfl := Option.some.inj (e.symm.trans e2)
    exact zone_block hza))
  have HA := Lib.hid hat
  clear hat hz
  generalize volL D = VL at *
  obtain ⟨size, op, act, Z⟩ := D
  try simp only at hl hx0 hA HEND HA
  go_enter Try.func21, Try.ntmps21
  generalize hw0 : w.alloc (devRow size op act a len cap) = w0 at *
  obtain ⟨y0, d0, d1, d2, d3⟩ := row4 hx0
  go_wp2_with (first
    | (at_make; refine wpList_make_full _ rfl _ _ 25 rfl w0.heap.size 3 i1 _ 1 Try.underlying25 hi1 hy0 hy1 .i64 .i64 (len : Int) (len : Int) len rfl rfl rfl rfl (by rw [hy2]; omega) (by unfold maxLen; omega) (Nat.le_refl _) ?_; intro w2 hown2 hgrow2; have hx2 := (hgrow2.block w.heap.size (lt_of_block hx0) (by simp)).trans hx0; have b2 := hA.grown hgrow2 hA.size (fun k hk => by cases hk); obtain ⟨y2, d0, d1, d2, d3⟩ := row4 hx2; clear hgrow2))
  have hgH : w.heap.size < w0.heap.size := y0
  generalize w0.heap.size = H at *
  clear d0 d1 d2 d3
  go_loopw [4] (fun c wr => ∃ (j : Nat) (C : List Value), c = .int .i64 j ∧ j ≤ len ∧ wr.ownsRow H 3 1 (.slice (some ⟨H, 0, none⟩) len len) len C ∧ VolCells C Z j ∧ wr.heap[w.heap.size]? = some (devRow size op act a len cap) ∧ Below w.heap.size w wr) (fun c _ => len - (intOf c).toNat)
  case atStart => exact ⟨0, _, rfl, by omega, hown2, fun i z hi => absurd hi (Nat.not_lt_zero _), hx2, b2⟩
  case round =>
    obtain ⟨j, C, rfl, hj, hown, hvc, hx, hb⟩ := hrel
    obtain ⟨yv, d0, d1, d2, d3⟩ := row4 hx
    by_cases hlt : j < len
    · obtain ⟨x, z, sa, sl, sc, rfl, hzk, hza, hss⟩ := HA.out wr hb j hlt
      have hjI : (j : Int) < (len : Int) := by omega
      obtain ⟨zc0, zc1, zc2⟩ := hza
      have hsl := hss.length
      have hnx := vol_next hvc hzk (owns_at hown hlt).1
      obtain ⟨-, ⟨u, e1⟩, f1⟩ := owns_at hown hlt
      have hV : vol z = max 0 (wrap64 ((sl : Int) - max 0 z.durable)) := by unfold vol; rw [hsl]
      rw [hV] at hnx
      obtain ⟨st, du, L⟩ := z
      try simp only at hnx zc0 zc1 zc2
      have hVV := vol_ifs (sl : Int) du
      generalize max 0 (wrap64 ((sl : Int) - max 0 du)) = V at hnx hVV
      go_wp2_with fail
      refine Plan.start (fun W => W.cell? ⟨w.heap.size, 3, none⟩ = some (.slice (some x) len cap) ∧ W.cell? ⟨(x.add (j * 3)).block, (x.add (j * 3)).off + 1, none⟩ = some (.int .i64 du) ∧ W.cell? ⟨(x.add (j * 3)).block, (x.add (j * 3)).off + 2, none⟩ = some (.slice sa sl sc)) [(0, true), (1, true), (2, true), (3, true), (4, true), (5, true), (6, true), (7, true), (8, true), (9, true), (10, true), (11, true), (12, true), (13, true), (14, true), (15, true), (16, true), (17, true), (18, true), (19, false)] (by kernel_rfl) (by kernel_rfl) (by kernel_rfl) (by kernel_rfl) ⟨d3, zc1, zc2⟩ ?_
      simp only [List.map_cons, List.map_nil, List.getElem?_toArray, List.getElem?_cons_zero, List.getElem?_cons_succ]
      repeat (first | (refine Plan.take ?_ (by rfl) ?_ ?_; rotate_left; (· rintro w9 ⟨u0, u1, u2⟩; go_simp; all_goals (with_reducible rfl)); simp only [Act.put, List.setIfInBounds_toArray, List.set_cons_zero, List.set_cons_succ]) | (refine Plan.pass (by rfl) ?_; simp only [Act.put, List.setIfInBounds_toArray, List.set_cons_zero, List.set_cons_succ]))
      have O9 := owns_cell hown j (.int .i64 V)
      have b9 := hb.drew.setCell (show w.heap.size ≤ (⟨H, j, none⟩ : Addr).block by show w.heap.size ≤ H; omega) (.int .i64 V)
      have hx9 := (Below.heap_setCell wr.drew ⟨H, j, none⟩ (.int .i64 V) w.heap.size (by show w.heap.size ≠ H; omega)).trans hx
      have hxb : x.block < w.heap.size := HXB.out x (by omega) rfl
      have hne : ∀ o, (⟨(x.add (j * 3)).block, o, none⟩ : Addr).block ≠ (⟨H, j, none⟩ : Addr).block := fun o h => by
        have h : (x.add (j * 3)).block = H := h
        rw [add_block] at h
        omega
      have zc1' : (wr.drew.setCell ⟨H, j, none⟩ (.int .i64 V)).cell? ⟨(x.add (j * 3)).block, (x.add (j * 3)).off + 1, none⟩ = some (.int .i64 du) := (World.cell?_of_block (Below.heap_setCell wr.drew ⟨H, j, none⟩ (.int .i64 V) _ (hne _))).trans zc1
      have zc2' : (wr.drew.setCell ⟨H, j, none⟩ (.int .i64 V)).cell? ⟨(x.add (j * 3)).block, (x.add (j * 3)).off + 2, none⟩ = some (.slice sa sl sc) := (World.cell?_of_block (Below.heap_setCell wr.drew ⟨H, j, none⟩ (.int .i64 V) _ (hne _))).trans zc2
      refine Plan.carry (by rfl) (wp_store_int 3 _ _ rfl H j .i64 V (by rfl) (by rfl) ⟨_, e1⟩ f1 int_info1 ⟨⟨(row4 hx9).2.2.2.2, zc1', zc2'⟩, ?_⟩)
      simp only [Act.put]
      refine Plan.ends ?_
      go_wp2_with fail
      go_roundw
      case rel => exact ⟨j + 1, _, by go_num, by omega, O9, hnx, hx9, b9⟩
      case measure => simp [intOf]; omega
    · obtain rfl : j = len := by omega
      go_wp2_with fail
      go_ret
      exact ⟨H, rfl, by omega, HEND.out wr H C hown hvc, hb⟩
end Go.Proofs.Ytlplomofgbmgaaa

/- The walk of the document's own Sync. -/
namespace Go.Proofs.Ytlplomofgbmgaaa
open Go.RowKit Plan ZnsMath MedMath

theorem ref_end {w wr : World} {F : Nat → Prop} {B g n c : Nat} {C : List Value} {Z : List Zone} {cs : Array Value} (hg : w.heap.size + 1 < g) (hF : ∀ b, F b → b < w.heap.size)
    (ho : wr.ownsRow B 28 3 (.slice (some ⟨g, 0, none⟩) n c) n C) (hz : ZCells wr F C Z) (b : Below w.heap.size w wr) :
    ZonesIn (wr.setRow (w.heap.size + 1) cs) (Plus F w.heap.size) (some ⟨g, 0, none⟩) n c Z ∧ Below w.heap.size w (wr.setRow (w.heap.size + 1) cs) := by
  have b9 := below_setRow b (show w.heap.size ≤ w.heap.size + 1 by omega) cs
  refine ⟨?_, b9⟩
  have z9 := hz.on (Agree.row (r := w.heap.size + 1) (fun h => by have := hF _ h; omega) cs)
  have o9 := owns_other (H := w.heap.size + 1) (cs := cs) ho (by omega)
  obtain ⟨-, a', cap', heq, h⟩ := owns_zones (F := Plus F w.heap.size) o9 (z9.mono (fun _ _ hb => .inl hb)) (fun b e => .inr (by have := Option.some.inj (show some g = some b from e); omega))
  cases heq
  exact h
set_option maxHeartbeats 2000000 in
set_option maxRecDepth 20000 in
theorem refSync_any (F : Nat → Prop) (D : Dev) (a : Option Addr) (len cap : Nat) (w : World) (hF : ∀ b, F b → b < w.heap.size) (hz : ZonesIn w F a len cap D.zones) :
    Calls Try.prog 17 #[devV D a len cap] w (MedPost w F len D (syncR D)) := by
  have hl := hz.is.length
  have hck := fun W (h : Below w.heap.size w W) => refCheck05_any D a len cap W (hz.is.on h (Nat.le_refl _))
  have hA := ((Below.refl w.heap.size w).alloc (Nat.le_refl _) (devRow D.size D.maxOpen D.maxActive a len cap)).alloc (by simp) (devRow 0 0 0 none 0 0)
  have hx0 := heap_first2 w (devRow D.size D.maxOpen D.maxActive a len cap) (devRow 0 0 0 none 0 0)
  have hr0 := heap_second w (devRow D.size D.maxOpen D.maxActive a len cap) (devRow 0 0 0 none 0 0)
  unfold MedPost DevPost syncR
  by_cases hE : checkE D = 0
  · rw [if_pos hE, if_pos hE]
    rw [hE] at hck ⊢
    obtain ⟨h1, h2, -, -⟩ := check_parts hE
    have hp := config_parts h1
    have hn1 : 1 ≤ len := by omega
    have hn2 : len ≤ 32 := by omega
    obtain ⟨x, rfl⟩ : ∃ x, a = some x := by
      rcases hz with ⟨_, rfl, _, _⟩ | ⟨x, rfl, _⟩
      · omega
      · exact ⟨x, rfl⟩
    obtain ⟨i1, hi1, hy0, hy1, hy2⟩ := info_parts zone_info6
    obtain ⟨C, hC1, hC2', hC3⟩ := hz.cells
    have hC2 := fun W (hb : Below w.heap.size w W) j u (hu : C[j]? = some u) => (hb.cell (block_lt_of_cell (hC2' j u hu))).trans (hC2' j u hu)
    have HC := Lib.hid hck
    have HC1 := Lib.hid hC1
    have HC2 := Lib.hid hC2
    have HC3 := Lib.hid hC3
    have HF := Lib.hid hF
    clear hck hz hE hF h1 h2 hC1 hC2 hC2' hC3
    obtain ⟨size, op, act, Z⟩ := D
    try simp only at hl hx0 hr0 hA hp HC HC1
    have HP := Lib.hid hp
    clear hp
    go_enter Try.func17, Try.ntmps17
    generalize hw0 : (w.alloc (devRow size op act (some x) len cap)).alloc (devRow 0 0 0 none 0 0) = w0 at *
    obtain ⟨y0, d0, d1, d2, d3⟩ := row4 hx0
    have n0 := lt_of_block hr0
    go_wp2_with (first
      | (go_at_call 14; ((with_reducible refine (HC.out _ hA).mono ?_); rintro e w1 ⟨rfl, hb1⟩; have hx1 := row_on hb1 hx0 (lt_of_block hx0); have hr1 := row_on hb1 hr0 (lt_of_block hr0); have b1 := hA.trans (hb1.mono hA.size); have n1 := hb1.size; clear d0 d1 d2 d3; obtain ⟨y1, d0, d1, d2, d3⟩ := row4 hx1))
      | (at_builtin; have E0 := zones_empty1 w1 rfl; refine wpList_append_lies _ rfl _ _ 22 rfl w1.heap.size 28 i1 _ 3 40 Try.underlying22 hi1 hy0 hy1 hy2 rfl (by decide) _ 0 [] (by rfl) E0 x len cap C rfl (by rw [HC1.out.1, hl]) (HC2.out _ (b1.alloc b1.size _)) HC3.out (by omega) (by unfold maxLen; omega) (by omega) (by simp) _ rfl ?_; intro g7 c7 w7 hown7 hgrow7 hat7 hlt7; have O7 := owns_copy hown7; have hgrow7 : (w1.alloc (.cells #[] 28)).grownBy w7 (some w1.heap.size) := hgrow7; have hx7 := (hgrow7.block _ (lt_of_block (row_al hx1 _)) (fun e => by have := Option.some.inj e; omega)).trans (row_al hx1 (.cells #[] 28)); have hr7 := (hgrow7.block _ (lt_of_block (row_al hr1 _)) (fun e => by have := Option.some.inj e; omega)).trans (row_al hr1 (.cells #[] 28)); have b7 := (b1.alloc b1.size (.cells #[] 28)).grown hgrow7 (by simp only [World.size_alloc]; have := b1.size; omega) (fun k hk => by have := Option.some.inj hk; omega); have Z7 := HC1.out.on (Agree.below (F := F) b7); have hg7 := (O7.lt g7 rfl).1; clear d0 d1 d2 d3; obtain ⟨v7, d0, d1, d2, d3⟩ := row4 hx7; have f7 := row_free hx7 3; clear hown7 hgrow7))
    have hg : w.heap.size + 1 < g7 := by omega
    have hx8 : (w7.setCell ⟨w.heap.size, 3, none⟩ (.slice (some ⟨g7, 0, none⟩) len c7)).heap[w.heap.size]? = some (devRow size op act (some ⟨g7, 0, none⟩) len c7) := setCell_row hx7 3 (.slice (some ⟨g7, 0, none⟩) len c7)
    have hr8 := (Below.heap_setCell w7 ⟨w.heap.size, 3, none⟩ (.slice (some ⟨g7, 0, none⟩) len c7) (w.heap.size + 1) (by show w.heap.size + 1 ≠ w.heap.size; omega)).trans hr7
    have O8 := ownsRow_setCell_other O7 (a := ⟨w.heap.size, 3, none⟩) (fun e => by have := Option.some.inj (show some g7 = some w.heap.size from e); omega) (.slice (some ⟨g7, 0, none⟩) len c7)
    have b8 := b7.setCell (show w.heap.size ≤ (⟨w.heap.size, 3, none⟩ : Addr).block from Nat.le_refl _) (.slice (some ⟨g7, 0, none⟩) len c7)
    have Z8 := Z7.on (Agree.setCell (p := ⟨w.heap.size, 3, none⟩) (fun h => Nat.lt_irrefl _ (HF.out _ h)) (.slice (some ⟨g7, 0, none⟩) len c7))
    generalize w7.setCell ⟨w.heap.size, 3, none⟩ (.slice (some ⟨g7, 0, none⟩) len c7) = w8 at hx8 hr8 b8 O8 Z8 ⊢
    clear d0 d1 d2 d3
    go_loopw [5] (fun c wr => ∃ (j : Nat) (C' : List Value), c = .int .i64 j ∧ j ≤ len ∧ wr.ownsRow w1.heap.size 28 3 (.slice (some ⟨g7, 0, none⟩) len c7) len C' ∧ ZCells wr F C' (durPart Z j) ∧ wr.heap[w.heap.size]? = some (devRow size op act (some ⟨g7, 0, none⟩) len c7) ∧ wr.heap[w.heap.size + 1]? = some (devRow 0 0 0 none 0 0) ∧ Below w.heap.size w wr) (fun c _ => len - (intOf c).toNat)
    case atStart => exact ⟨0, C, rfl, by omega, O8, by rw [durPart_zero]; exact Z8, hx8, hr8, b8⟩
    case round =>
      obtain ⟨j, C', rfl, hj, hown, hzc, hx, hr, hb⟩ := hrel
      obtain ⟨yv, d0, d1, d2, d3⟩ := row4 hx
      by_cases hlt : j < len
      · obtain ⟨z, hz⟩ := zone_of (D := ⟨size, op, act, Z⟩) (k := j) (by show j < Z.length; omega)
        have hzp := durPart_get (show Z[j]? = some z from hz)
        obtain ⟨c1, c2, sa, sl, sc, c3, hss⟩ := hzc.2 j z hzp
        have hsl := hss.1.length
        have hnx := ZCells.dur hzc hzp
        rw [durPart_next (show Z[j]? = some z from hz), hsl] at hnx
        have hjI : (j : Int) < (len : Int) := by omega
        have e1 := hown.cells (g := g7) rfl _ _ c2
        have e2 := hown.cells (g := g7) rfl _ _ c3
        rw [add_lit0] at e1 e2
        have f1 := owns_free5 hown (j * 3 + 1)
        go_wp2_with fail
        refine Plan.start (fun W => W.cell? ⟨w.heap.size, 3, none⟩ = some (.slice (some ⟨g7, 0, none⟩) len c7) ∧ W.cell? ⟨g7, j * 3 + 2, none⟩ = some (.slice sa sl sc)) [(0, true), (1, true), (2, true), (3, true), (4, true), (5, true), (6, true), (7, true), (8, true), (9, true), (10, true), (11, true), (12, false)] (by kernel_rfl) (by kernel_rfl) (by kernel_rfl) (by kernel_rfl) ⟨d3, e2⟩ ?_
        simp only [List.map_cons, List.map_nil, List.getElem?_toArray, List.getElem?_cons_zero, List.getElem?_cons_succ]
        repeat (first | (refine Plan.take ?_ (by rfl) ?_ ?_; rotate_left; (· rintro w9 ⟨u0, u1⟩; go_simp; (try rw [if_neg (by omega)]); all_goals (with_reducible rfl)); simp only [Act.put, List.setIfInBounds_toArray, List.set_cons_zero, List.set_cons_succ]) | (refine Plan.pass (by rfl) ?_; simp only [Act.put, List.setIfInBounds_toArray, List.set_cons_zero, List.set_cons_succ]))
        have O9 := owns_cell hown (j * 3 + 1) (.int .i64 (sl : Int))
        have hx9 := (Below.heap_setCell wr.drew ⟨g7, j * 3 + 1, none⟩ (.int .i64 (sl : Int)) w.heap.size (by show w.heap.size ≠ g7; omega)).trans hx
        have hr9 := (Below.heap_setCell wr.drew ⟨g7, j * 3 + 1, none⟩ (.int .i64 (sl : Int)) (w.heap.size + 1) (by show w.heap.size + 1 ≠ g7; omega)).trans hr
        have b9 := hb.drew.setCell (show w.heap.size ≤ (⟨g7, j * 3 + 1, none⟩ : Addr).block by show w.heap.size ≤ g7; omega) (.int .i64 (sl : Int))
        have Z9 := (hnx.on (Agree.below (Below.refl wr.heap.size wr).drew)).on (Agree.setCell (p := ⟨g7, j * 3 + 1, none⟩) (fun h => by have : g7 < w.heap.size := HF.out _ h; omega) (.int .i64 (sl : Int)))
        have e3 : (wr.drew.setCell ⟨g7, j * 3 + 1, none⟩ (.int .i64 (sl : Int))).cell? ⟨g7, j * 3 + 2, none⟩ = some (.slice sa sl sc) := by
          have := O9.cells (g := g7) rfl (j * 3 + 2) (.slice sa sl sc) (by rw [List.getElem?_set_ne (by omega)]; exact c3)
          rw [add_lit0] at this
          exact this
        refine Plan.carry (by rfl) (wp_store_int 3 _ _ rfl g7 (j * 3 + 1) .i64 (sl : Int) (by rfl) (by rfl) ⟨_, e1⟩ f1 int_info1 ⟨⟨(row4 hx9).2.2.2.2, e3⟩, ?_⟩)
        simp only [Act.put]
        refine Plan.ends ?_
        go_wp2_with fail
        go_roundw
        case rel => exact ⟨j + 1, _, by go_num, by omega, O9, Z9, hx9, hr9, b9⟩
        case measure => simp [intOf]; omega
      · obtain rfl : j = len := by omega
        rw [durPart_all Z hl] at hzc
        go_wp2_with (first
          | ((with_reducible refine Plan.store_lit 24 (.tmp 2) _ (w.heap.size + 1) ?_ hr ?_ ?_ ?_ ?_ ?_ ?_); rotate_left; (· rfl); (· rfl); (· exact dev_info); (· rfl); (· simp [Value.oneCell']); simp only [Act.put]))
        have E9 := fun cs => ref_end (cs := cs) hg HF.out hown hzc hb
        exact bodyPost_ret (Plan.results_cell_tmp (p := 2) (q := 3) rfl _ _ _ _ _ _ _ rfl (setRow_heap _ _ _ _ _ _ hr) Try.underlying24 rfl dev_info) rfl ⟨_, _, rfl, (E9 _).1, (E9 _).2⟩
  · rw [if_neg hE, if_neg hE]
    have hE1 : (checkE D != 0) = true := by simp [hE]
    generalize checkE D = E at *
    have HC := Lib.hid hck
    clear hck hz hE
    obtain ⟨size, op, act, Z⟩ := D
    try simp only at hl hx0 hr0 hA HC
    go_enter Try.func17, Try.ntmps17
    generalize hw0 : (w.alloc (devRow size op act a len cap)).alloc (devRow 0 0 0 none 0 0) = w0 at *
    obtain ⟨y0, d0, d1, d2, d3⟩ := row4 hx0
    have n0 := lt_of_block hr0
    go_wp2_with (first
      | (go_at_call 14; ((with_reducible refine (HC.out _ hA).mono ?_); rintro e w1 ⟨rfl, hb1⟩; have hr1 := row_on hb1 hr0 (lt_of_block hr0); have b1 := hA.trans (hb1.mono hA.size)))
      | ((with_reducible refine Plan.store_lit 24 (.tmp 2) _ (w.heap.size + 1) ?_ hr1 ?_ ?_ ?_ ?_ ?_ ?_); rotate_left; (· rfl); (· rfl); (· exact dev_info); (· rfl); (· simp [Value.oneCell']); simp only [Act.put]))
    exact bodyPost_ret (Plan.results_cell_tmp (p := 2) (q := 3) rfl _ _ _ _ _ _ _ rfl (setRow_heap _ _ _ _ _ _ hr1) Try.underlying24 rfl dev_info) rfl ⟨none, 0, rfl, .inl ⟨rfl, rfl, rfl, rfl⟩, below_setRow b1 (show w.heap.size ≤ w.heap.size + 1 by omega) _⟩
end Go.Proofs.Ytlplomofgbmgaaa

/- The walk of the document's own Crash. -/
namespace Go.Proofs.Ytlplomofgbmgaaa
open Go.RowKit Plan ZnsMath MedMath

/-- the blocks in which the sectors lie in the loop -/
abbrev Gs (F : Nat → Prop) (m g : Nat) : Nat → Prop := fun b => F b ∨ (m + 1 < b ∧ b ≠ g)
theorem strs_cut {w : World} {F : Nat → Prop} {a : Option Addr} {len cap : Nat} {L : List ByteArray} (h : StrsIn w F a len cap L) (n : Nat) (hn : n ≤ len) : StrsIn w F a n cap (L.take n) := by
  have hl := h.1.length
  refine ⟨?_, fun h0 x hx => h.2 (by omega) x hx⟩
  rcases h.1 with ⟨rfl, rfl, rfl, rfl⟩ | ⟨x, h1, h2, h3, h4, h5⟩
  · obtain rfl : n = 0 := by omega
    exact .inl ⟨rfl, rfl, rfl, rfl⟩
  · refine .inr ⟨x, h1, by omega, h3, by rw [List.length_take]; omega, fun i s hi => h5 i s ?_⟩
    rw [List.getElem?_take] at hi
    split at hi
    · exact hi
    · cases hi
theorem owns_strsIn {w : World} {B : Nat} {v : Value} {n : Nat} {L : List ByteArray} {F : Nat → Prop} (h : w.ownsRow B 9 1 v n (strs L)) (hs : ∀ s ∈ L, s.size ≤ maxLen) (hF : ∀ b, B ≤ b → F b) : ∃ a cap, v = .slice a n cap ∧ StrsIn w F a n cap L := by
  obtain ⟨-, a, cap, rfl, hi⟩ := owns_strs h hs
  refine ⟨a, cap, rfl, hi, fun h0 x hx => ?_⟩
  rcases h.2 with ⟨hv, rfl⟩ | ⟨g, c, cur, hv, hb, _⟩
  · omega
  · cases hv
    obtain rfl := Option.some.inj hx
    exact hF _ hb
theorem Nums.cell {w : World} {g : Nat} {L : List Int} (h : Nums w g L) {p : Addr} (hp : p.block ≠ g) (v : Value) : Nums (w.setCell p v) g L :=
  ⟨by simpa [World.setCell] using h.1, fun i u hi => (World.cell?_of_block (Below.heap_setCell w p v g (Ne.symm hp))).trans (h.2 i u hi)⟩
theorem crash_put {w wr W w9 : World} {F : Nat → Prop} {B g gv n c j : Nat} {C : List Value} {Z : List Zone} {VL : List Int} {st du : Int} {L : List ByteArray} {sa : Option Addr} {sl sc : Nat} {o0 o1 : Obj}
    (hx : wr.heap[w.heap.size]? = some o0) (hr : wr.heap[w.heap.size + 1]? = some o1) (hg : w.heap.size + 1 < g) (hgr : g < wr.heap.size) (hF : ∀ b, F b → b < w.heap.size)
    (ho : wr.ownsRow B 28 3 (.slice (some ⟨g, 0, none⟩) n c) n C) (hz : ZCells wr (Gs F w.heap.size g) C Z) (hj : j < Z.length) (b : Below w.heap.size w wr) (N : Nums wr gv VL) (hgv : gv ≠ g) (bW : Below wr.heap.size wr W)
    (hs : StrsIn W (fun b => wr.heap.size < b) sa sl sc L) (e : w9 = W.setCells g (j * 3) [.int .i64 st, .int .i64 du, .slice sa sl sc]) :
    (∃ C', w9.ownsRow B 28 3 (.slice (some ⟨g, 0, none⟩) n c) n C' ∧ ZCells w9 (Gs F w.heap.size g) C' (Z.set j ⟨st, du, L⟩)) ∧ w9.heap[w.heap.size]? = some o0 ∧ w9.heap[w.heap.size + 1]? = some o1 ∧ Below w.heap.size w w9 ∧ Nums w9 gv VL := by
  have hlt := lt_of_block hr
  obtain ⟨h1, h2, h3, h4⟩ := each_put (row_on bW hx (lt_of_block hx)) (row_on bW hr hlt) hg (F := Gs F w.heap.size g) (fun h => by rcases h with h | h; (· have := hF _ h; omega); (· exact h.2 rfl)) (zowns_on ho bW) (hz.on (Agree.below bW)) hj (hs.mono (fun b _ h => .inr ⟨by omega, by omega⟩)) (b.trans (bW.mono b.size)) w9 e
  refine ⟨h1, h2, h3, h4, ?_⟩
  have e : w9 = ((W.setCell ⟨g, j * 3, none⟩ (.int .i64 st)).setCell ⟨g, j * 3 + 1, none⟩ (.int .i64 du)).setCell ⟨g, j * 3 + 1 + 1, none⟩ (.slice sa sl sc) := e
  subst e
  exact (((N.on bW).cell (p := ⟨g, j * 3, none⟩) hgv.symm _).cell (p := ⟨g, j * 3 + 1, none⟩) hgv.symm _).cell (p := ⟨g, j * 3 + 1 + 1, none⟩) hgv.symm _
theorem refc_end {w wr : World} {F : Nat → Prop} {B g n c : Nat} {C : List Value} {Z : List Zone} {cs : Array Value} (hg : w.heap.size + 1 < g) (hF : ∀ b, F b → b < w.heap.size)
    (ho : wr.ownsRow B 28 3 (.slice (some ⟨g, 0, none⟩) n c) n C) (hz : ZCells wr (Gs F w.heap.size g) C Z) (b : Below w.heap.size w wr) :
    ZonesIn (wr.setRow (w.heap.size + 1) cs) (Plus F w.heap.size) (some ⟨g, 0, none⟩) n c Z ∧ Below w.heap.size w (wr.setRow (w.heap.size + 1) cs) := by
  have b9 := below_setRow b (show w.heap.size ≤ w.heap.size + 1 by omega) cs
  refine ⟨?_, b9⟩
  have z9 := hz.on (Agree.row (r := w.heap.size + 1) (fun h => by rcases h with h | h; (· have := hF _ h; omega); (· omega)) cs)
  have o9 := owns_other (H := w.heap.size + 1) (cs := cs) ho (by omega)
  obtain ⟨-, a', cap', heq, h⟩ := owns_zones (F := Plus F w.heap.size) o9 (z9.mono (fun _ _ hb => by rcases hb with h | h; (· exact .inl h); (· exact .inr (by omega)))) (fun b e => .inr (by have := Option.some.inj (show some g = some b from e); omega))
  cases heq
  exact h
theorem zbox_put {w wr W : World} {cs : Array Value} {t : TypeId} {ta : Option Addr} {n tc k : Nat} {L : List ByteArray} {o r : Obj} {v : Value} (hq : W.heap[wr.heap.size]? = some (.cells cs t (0, 0))) (c : Below wr.heap.size wr W) (S : StrsIn W (fun b => wr.heap.size < b) ta n tc L)
    (hx : W.heap[w.heap.size]? = some o) (hw : w.heap.size < wr.heap.size) (hr : r = .cells (cs.setIfInBounds k v) t (0, 0)) :
    (W.setCell ⟨wr.heap.size, k, none⟩ v).heap[wr.heap.size]? = some r ∧ Below wr.heap.size wr (W.setCell ⟨wr.heap.size, k, none⟩ v) ∧ StrsIn (W.setCell ⟨wr.heap.size, k, none⟩ v) (fun b => wr.heap.size < b) ta n tc L ∧ (W.setCell ⟨wr.heap.size, k, none⟩ v).heap[w.heap.size]? = some o := by
  subst hr
  exact ⟨setCell_row hq k v, c.setCell (show wr.heap.size ≤ wr.heap.size from Nat.le_refl _) v, S.on (Agree.setCell (p := ⟨wr.heap.size, k, none⟩) (show ¬ wr.heap.size < wr.heap.size from Nat.lt_irrefl _) v), (Below.heap_setCell W ⟨wr.heap.size, k, none⟩ v w.heap.size (show w.heap.size ≠ wr.heap.size by omega)).trans hx⟩
theorem keep_ifs (K V : Int) : (if 0 < (if V < K then V else K) then (if V < K then V else K) else 0) = max 0 (min K V) := by
  split <;> split <;> omega
set_option maxHeartbeats 4000000 in
set_option maxRecDepth 20000 in
theorem refCrash_any (F : Nat → Prop) (D : Dev) (a : Option Addr) (len cap : Nat) (zs keep : List Int) (ka : Option Addr) (kl kc : Nat) (w : World) (hF : ∀ b, F b → b < w.heap.size) (hz : ZonesIn w F a len cap D.zones) (hk : IsRow .i64 w ka kl kc zs) (hzk : zs.take kl = keep) :
    Calls Try.prog 18 #[devV D a len cap, .slice ka kl kc] w (MedPost w F len D (crashR D keep)) := by
  have hl := hz.is.length
  have hck := fun W (h : Below w.heap.size w W) => refCheck05_any D a len cap W (hz.is.on h (Nat.le_refl _))
  have hA := ((Below.refl w.heap.size w).alloc (Nat.le_refl _) (devRow D.size D.maxOpen D.maxActive a len cap)).alloc (by simp) (devRow 0 0 0 none 0 0)
  have hx0 := heap_first2 w (devRow D.size D.maxOpen D.maxActive a len cap) (devRow 0 0 0 none 0 0)
  have hr0 := heap_second w (devRow D.size D.maxOpen D.maxActive a len cap) (devRow 0 0 0 none 0 0)
  unfold MedPost DevPost
  rw [crash_eq]
  by_cases hE : checkE D = 0
  · rw [if_pos hE, if_pos hE]
    rw [hE] at hck ⊢
    obtain ⟨h1, h2, -, -⟩ := check_parts hE
    have hp := config_parts h1
    have hn1 : 1 ≤ len := by omega
    have hn2 : len ≤ 32 := by omega
    obtain ⟨x, rfl⟩ : ∃ x, a = some x := by
      rcases hz with ⟨_, rfl, _, _⟩ | ⟨x, rfl, _⟩
      · omega
      · exact ⟨x, rfl⟩
    obtain ⟨i1, hi1, hy0, hy1, hy2⟩ := info_parts zone_info6
    obtain ⟨C, hC1, hC2', hC3⟩ := hz.cells
    have hC2 := fun W (hb : Below w.heap.size w W) j u (hu : C[j]? = some u) => (hb.cell (block_lt_of_cell (hC2' j u hu))).trans (hC2' j u hu)
    have hvl := fun W (h : Below w.heap.size w W) => refVols_any D (some x) len cap W (hz.is.on h (Nat.le_refl _)) (by omega)
    unfold VolPost at hvl
    have hkg : ∀ W, Below w.heap.size w W → ∀ j : Nat, (j < kl → ∃ y, ka = some y ∧ W.cell? (y.add j) = some (.int .i64 (keep.getD j 0))) ∧ (¬ j < kl → keep.getD j 0 = 0) := fun W h j => by
      refine ⟨fun hj => by have := keep_get (row_keep hk h) j hj; rwa [hzk] at this, fun hj => ?_⟩
      have hkl : keep.length ≤ kl := by rw [← hzk, List.length_take]; omega
      rw [List.getD_eq_getElem?_getD, List.getElem?_eq_none (by omega)]
      rfl
    have hrt : ∀ (j : Nat) z, D.zones[j]? = some z → stays z keep j ≤ z.sectors.length ∧ wrap64 (z.durable + keepK z keep j) = stays z keep j ∧ z.sectors.length ≤ 64 ∧ (keep.getD j 0 = 0 → wrap64 z.durable = stays z keep j) ∧ ∀ s ∈ z.sectors.take (stays z keep j), s.size ≤ maxLen := fun j z hj => by
      have hr := right_all h2 hj
      have hs := stays_eq hr (by omega) keep j
      have hrr := (right_iff _ _).1 hr
      refine ⟨hs.2.2.1, by rw [← hs.1]; unfold wrap64; omega, by omega, fun h => ?_, fun s hm => ?_⟩
      · have hk0 : keepK z keep j = 0 := by rw [hs.2.2.2, h]; omega
        rw [hk0] at hs
        unfold wrap64
        omega
      · have := take_sizes hrr.2.1 (stays z keep j)
        unfold sizesB at this
        rw [List.all_eq_true] at this
        have := this s hm
        unfold maxLen
        simp at this
        omega
    have hvi : ∀ (j : Nat) z, D.zones[j]? = some z → (volL D)[j]? = some (vol z) := fun j z hj => by unfold volL; rw [List.getElem?_map, hj]; rfl
    have HC := Lib.hid hck
    have HV := Lib.hid hvl
    have HKG := Lib.hid hkg
    have HRT := Lib.hid hrt
    have HVI := Lib.hid hvi
    have HC1 := Lib.hid hC1
    have HC2 := Lib.hid hC2
    have HC3 := Lib.hid hC3
    have HF := Lib.hid hF
    clear hck hz hE hF h1 h2 hC1 hC2 hC2' hC3 hvl hkg hrt hvi hk hzk
    generalize volL D = VL at HV HVI
    obtain ⟨size, op, act, Z⟩ := D
    try simp only at hl hx0 hr0 hA hp HC HC1 HV HRT HVI
    have HP := Lib.hid hp
    clear hp
    go_enter Try.func18, Try.ntmps18
    generalize hw0 : (w.alloc (devRow size op act (some x) len cap)).alloc (devRow 0 0 0 none 0 0) = w0 at *
    obtain ⟨y0, d0, d1, d2, d3⟩ := row4 hx0
    have n0 := lt_of_block hr0
    go_wp2_with (first
      | (go_at_call 14; ((with_reducible refine (HC.out _ hA).mono ?_); rintro e w1 ⟨rfl, hb1⟩; have hx1 := row_on hb1 hx0 (lt_of_block hx0); have hr1 := row_on hb1 hr0 (lt_of_block hr0); have b1 := hA.trans (hb1.mono hA.size); have n1 := hb1.size; clear d0 d1 d2 d3; obtain ⟨y1, d0, d1, d2, d3⟩ := row4 hx1))
      | (go_at_call 21; ((with_reducible refine (HV.out _ b1).mono ?_); rintro e w2 ⟨gv, rfl, hgv, hnm, hb2⟩; have hx2 := row_on hb2 hx1 (lt_of_block hx1); have hr2 := row_on hb2 hr1 (lt_of_block hr1); have b2 := b1.trans (hb2.mono b1.size); have n2 := hnm.1; clear d0 d1 d2 d3; obtain ⟨y2, d0, d1, d2, d3⟩ := row4 hx2))
      | (at_builtin; have E0 := zones_empty1 w2 rfl; refine wpList_append_lies _ rfl _ _ 22 rfl w2.heap.size 28 i1 _ 3 40 Try.underlying22 hi1 hy0 hy1 hy2 rfl (by decide) _ 0 [] (by rfl) E0 x len cap C rfl (by rw [HC1.out.1, hl]) (HC2.out _ (b2.alloc b2.size _)) HC3.out (by omega) (by unfold maxLen; omega) (by omega) (by simp) _ rfl ?_; intro g7 c7 w7 hown7 hgrow7 hat7 hlt7; have O7 := owns_copy hown7; have hgrow7 : (w2.alloc (.cells #[] 28)).grownBy w7 (some w2.heap.size) := hgrow7; have hx7 := (hgrow7.block _ (lt_of_block (row_al hx2 _)) (fun e => by have := Option.some.inj e; omega)).trans (row_al hx2 (.cells #[] 28)); have hr7 := (hgrow7.block _ (lt_of_block (row_al hr2 _)) (fun e => by have := Option.some.inj e; omega)).trans (row_al hr2 (.cells #[] 28)); have bb7 := ((Below.refl w2.heap.size w2).alloc (Nat.le_refl _) (.cells #[] 28)).grown hgrow7 (by simp) (fun k hk => by have := Option.some.inj hk; omega); have N7 := hnm.on bb7; have b7 := (b2.alloc b2.size (.cells #[] 28)).grown hgrow7 (by simp only [World.size_alloc]; have := b2.size; omega) (fun k hk => by have := Option.some.inj hk; omega); have Z7 := HC1.out.on (Agree.below (F := F) b7); have hg7 := (O7.lt g7 rfl).1; clear d0 d1 d2 d3; obtain ⟨v7, d0, d1, d2, d3⟩ := row4 hx7; have f7 := row_free hx7 3; clear hown7 hgrow7))
    have hg : w.heap.size + 1 < g7 := by have := b2.size; omega
    have hgv7 : gv ≠ g7 := by omega
    have hgv0 : gv ≠ w.heap.size := by omega
    have hx8 : (w7.setCell ⟨w.heap.size, 3, none⟩ (.slice (some ⟨g7, 0, none⟩) len c7)).heap[w.heap.size]? = some (devRow size op act (some ⟨g7, 0, none⟩) len c7) := setCell_row hx7 3 (.slice (some ⟨g7, 0, none⟩) len c7)
    have hr8 := (Below.heap_setCell w7 ⟨w.heap.size, 3, none⟩ (.slice (some ⟨g7, 0, none⟩) len c7) (w.heap.size + 1) (by show w.heap.size + 1 ≠ w.heap.size; omega)).trans hr7
    have O8 := ownsRow_setCell_other O7 (a := ⟨w.heap.size, 3, none⟩) (fun e => by have := Option.some.inj (show some g7 = some w.heap.size from e); omega) (.slice (some ⟨g7, 0, none⟩) len c7)
    have b8 := b7.setCell (show w.heap.size ≤ (⟨w.heap.size, 3, none⟩ : Addr).block from Nat.le_refl _) (.slice (some ⟨g7, 0, none⟩) len c7)
    have Z8 := Z7.on (Agree.setCell (p := ⟨w.heap.size, 3, none⟩) (fun h => Nat.lt_irrefl _ (HF.out _ h)) (.slice (some ⟨g7, 0, none⟩) len c7))
    have N8 := N7.cell (p := ⟨w.heap.size, 3, none⟩) hgv0.symm (.slice (some ⟨g7, 0, none⟩) len c7)
    have Z8 := Z8.mono (G := Gs F w.heap.size g7) (fun _ _ h => .inl h)
    generalize w7.setCell ⟨w.heap.size, 3, none⟩ (.slice (some ⟨g7, 0, none⟩) len c7) = w8 at hx8 hr8 b8 O8 Z8 N8 ⊢
    clear d0 d1 d2 d3
    have hlF := hl
    have HLF := Lib.hid hlF
    go_loopw [8] (fun c wr => ∃ (j : Nat) (C' : List Value), c = .int .i64 j ∧ j ≤ len ∧ wr.ownsRow w2.heap.size 28 3 (.slice (some ⟨g7, 0, none⟩) len c7) len C' ∧ ZCells wr (Gs F w.heap.size g7) C' (partZ (crashZ keep) Z Z j) ∧ wr.heap[w.heap.size]? = some (devRow size op act (some ⟨g7, 0, none⟩) len c7) ∧ wr.heap[w.heap.size + 1]? = some (devRow 0 0 0 none 0 0) ∧ Below w.heap.size w wr ∧ Nums wr gv VL) (fun c _ => len - (intOf c).toNat)
    case atStart => exact ⟨0, C, rfl, by omega, O8, by rw [partZ_zero]; exact Z8, hx8, hr8, b8, N8⟩
    case round =>
      obtain ⟨j, C', rfl, hj, hown, hzc, hx, hr, hb, hN⟩ := hrel
      obtain ⟨yv, d0, d1, d2, d3⟩ := row4 hx
      by_cases hlt : j < len
      · obtain ⟨z, hz⟩ := zone_of (D := ⟨size, op, act, Z⟩) (k := j) (by show j < Z.length; omega)
        have hz : Z[j]? = some z := hz
        have hzp := partZ_get (crashZ keep) (Z := Z) (Y := Z) rfl hz
        obtain ⟨zc0, zc1, ⟨sa, sl, sc, zc2, hss⟩, -, -, -⟩ := odd_cells hown hzc hzp
        have hsl := hss.1.length
        have hnx := partZ_next (crashZ keep) (Y := Z) rfl hz
        have hpl := partZ_length (crashZ keep) (Z := Z) (Y := Z) rfl j
        have hjI : (j : Int) < (len : Int) := by omega
        obtain ⟨hn1', hn2', hn3', hn4', hsm⟩ := HRT.out j z hz
        have hvc := hN.2 j (vol z) (HVI.out j z hz)
        obtain ⟨hkg1, hkg2⟩ := HKG.out wr hb j
        have hkk : keepK z keep j = max 0 (min (keep.getD j 0) (vol z)) := rfl
        rw [← keep_ifs] at hkk
        unfold crashZ failed at hnx
        generalize stays z keep j = n at *
        generalize keepK z keep j = kk at *
        generalize keep.getD j 0 = K at *
        generalize vol z = V at *
        obtain ⟨st, du, L⟩ := z
        try simp only at hn1' hn2' hn3' hn4' hsm hsl hnx zc0 zc1 hss
        have hnl : n ≤ sl := by omega
        have hgr : g7 < wr.heap.size := (hown.lt g7 rfl).2
        have hpj : j < (partZ (crashZ keep) Z Z j).length := by rw [hpl]; omega
        have hf4 : ∃ fs, failS st n = fs ∧ ((((st != 4) = false ∨ ((st != 4) = true ∧ (st != 5) = false)) ∧ fs = st) ∨ ((st != 4) = true ∧ (st != 5) = true ∧ ((n : Int) == 0) = true ∧ fs = 0) ∨ ((st != 4) = true ∧ (st != 5) = true ∧ ((n : Int) == 0) = false ∧ fs = 3)) := by
          refine ⟨_, rfl, ?_⟩
          unfold failS
          by_cases h4 : st = 4
          · rw [if_pos (.inl h4)]; exact .inl ⟨.inl (by simp [h4]), rfl⟩
          · by_cases h5 : st = 5
            · rw [if_pos (.inr h5)]; exact .inl ⟨.inr ⟨by simp [h4], by simp [h5]⟩, rfl⟩
            · rw [if_neg (by omega)]
              by_cases h0 : n = 0
              · rw [if_pos h0]; exact .inr (.inl ⟨by simp [h4], by simp [h5], by simp [h0], rfl⟩)
              · rw [if_neg h0]; exact .inr (.inr ⟨by simp [h4], by simp [h5], by simp [h0], rfl⟩)
        obtain ⟨fs, hfs, hf4⟩ := hf4
        rw [hfs] at hnx
        have HNX := Lib.hid hnx
        clear hnx hfs hn1'
        have hnc : (n : Int) ≤ (sc : Int) := by
          have : sl ≤ sc := by
            rcases hss.1 with ⟨_, h1, h2, _⟩ | ⟨y, _, h, _⟩ <;> omega
          omega
        by_cases hjk : j < kl
        · obtain ⟨y, rfl, hkc⟩ := hkg1 hjk
          have hjkI : (j : Int) < (kl : Int) := by omega
          have hkr := hkk.symm
          clear hkg1 hkg2 hkk hn4'
          rcases hf4 with ⟨h4 | ⟨h4, h5⟩, hfe⟩ | ⟨h4, h5, h6, hfe⟩ | ⟨h4, h5, h6, hfe⟩
          all_goals
            have HFE := Lib.hid hfe.symm
            clear hfe
            go_wp2_with fail
            refine Plan.start (fun W => W.cell? (y.add j) = some (.int .i64 K) ∧ W.cell? ⟨gv, j, none⟩ = some (.int .i64 V)) [(0, true), (1, true), (2, true), (3, true), (4, true), (5, true), (6, true), (7, true), (8, true), (9, true), (10, true)] (by kernel_rfl) (by kernel_rfl) (by kernel_rfl) (by kernel_rfl) ⟨hkc, hvc⟩ ?_
            simp only [List.map_cons, List.map_nil, List.getElem?_toArray, List.getElem?_cons_zero, List.getElem?_cons_succ]
            repeat (first | (refine Plan.take ?_ (by rfl) ?_ ?_; rotate_left; (· rintro w9 ⟨u0, u1⟩; go_simp; all_goals (with_reducible rfl)); simp only [Act.put, List.setIfInBounds_toArray, List.set_cons_zero, List.set_cons_succ]) | (refine Plan.pass (by rfl) ?_; simp only [Act.put, List.setIfInBounds_toArray, List.set_cons_zero, List.set_cons_succ]))
            refine Plan.ends ?_
            clear hkr
            generalize (if V < K then V else K) = q43
            have ht := hb.drew
            have hall : wr.drew.heap[w.heap.size]? = some (devRow size op act (some ⟨g7, 0, none⟩) len c7) ∧ wr.drew.heap[w.heap.size + 1]? = some (devRow 0 0 0 none 0 0) ∧ wr.drew.ownsRow w2.heap.size 28 3 (.slice (some ⟨g7, 0, none⟩) len c7) len C' ∧ ZCells wr.drew (Gs F w.heap.size g7) C' (partZ (crashZ keep) Z Z j) ∧ Below w.heap.size w wr.drew ∧ Nums wr.drew gv VL ∧ StrsIn wr.drew (Gs F w.heap.size g7) sa sl sc L ∧ wr.drew.cell? ⟨g7, j * 3, none⟩ = some (.int .i64 st) ∧ wr.drew.cell? ⟨g7, j * 3 + 1, none⟩ = some (.int .i64 du) ∧ wr.drew.cell? ⟨g7, j * 3 + 2, none⟩ = some (.slice sa sl sc) := ⟨hx, hr, hown, hzc.on (Agree.below (Below.refl wr.heap.size wr).drew), ht, hN, hss.on (Agree.below (Below.refl wr.heap.size wr).drew), zc0, zc1, zc2⟩
            clear hx hr hown hzc hb hN hss zc0 zc1 zc2 d0 d1 d2 d3 hvc yv hkc ht
            generalize wr.drew = wr at hall ⊢
            obtain ⟨hx, hr, hown, hzc, hb, hN, hss, zc0, zc1, zc2⟩ := hall
            obtain ⟨yv, d0, d1, d2, d3⟩ := row4 hx
            have hwr : w.heap.size < wr.heap.size := yv
            have hgr : g7 < wr.heap.size := (hown.lt g7 rfl).2
            have hpj : j < (partZ (crashZ keep) Z Z j).length := by rw [hpl]; omega
            have T8 := Lib.hid (fun (W : World) (hW : Below wr.heap.size wr W) => put_there (zowns_on hown hW) hzc hpj)
            have E9 := Lib.hid (fun (W w9 : World) (ta : Option Addr) (tn tc : Nat) (v : Int) (hv : v = fs) (hW : Below wr.heap.size wr W) (hs : StrsIn W (fun b => wr.heap.size < b) ta tn tc (L.take n)) (e : w9 = W.setCells g7 (j * 3) [.int .i64 v, .int .i64 (n : Int), .slice ta tn tc]) => by subst hv; exact crash_put hx hr hg hgr HF.out hown hzc hpj hb hN hgv7 hW hs e)
            go_wp2_with (first
          | (at_builtin; have E0 := strs_empty (wr.alloc (zoneRow st du sa sl sc)) (H := wr.heap.size + 1) (by simp only [World.size_alloc]); have c4 := ((Below.refl wr.heap.size wr).alloc (Nat.le_refl _) (zoneRow st du sa sl sc)).alloc (by simp only [World.size_alloc]; omega) (.cells #[] 9); refine append_list rfl _ _ rfl (wr.heap.size + 1) (.slice (some ⟨wr.heap.size + 1, 0, none⟩) 0 0) rfl E0 sa n sc (L.take n) rfl ((strs_cut hss n hnl).1.on c4 (Nat.le_refl _)) (by omega) (by simp only [World.size_alloc]; omega) ?_; intro v5 w5 hown5 hgrow5; have c5 := below_grow c4 E0 (by omega) (by simp only [World.size_alloc]; omega) hgrow5; have hq3 : (wr.alloc (zoneRow st du sa sl sc)).heap[wr.heap.size]? = some (zoneRow st du sa sl sc) := heap_alloc_new _ _; have hq5 := row_grow E0 hgrow5 (row_al hq3 (.cells #[] 9)) (by omega); obtain ⟨ta, tc, rfl, hs5⟩ := owns_strsIn (F := fun b => wr.heap.size < b) hown5 hsm (fun b h => by omega); have S5 := Lib.hid hs5; have hx5 := row_on c5 hx (lt_of_block hx); clear d0 d1 d2 d3; obtain ⟨y5, d0, d1, d2, d3⟩ := row4 hx5; obtain ⟨yq5, q0, q1, q2⟩ := row3 hq5; have f5 := row_free hq5 0; have f6 := row_free hq5 1; have f7 := row_free hq5 2; clear hown5 hgrow5 E0 hs5 zc0 zc1 zc2)
          | ((with_reducible refine store_slice_lit 26 (.tmp 59) _ wr.heap.size 2 ta n tc ?_ ?_ ⟨_, q2⟩ f7 str_slice_info1 ?_); (· rfl); (· rfl); simp only [Act.put]; have hP := zbox_put (k := 2) (v := .slice ta n tc) (r := zoneRow st du ta n tc) hq5 c5 S5.out hx5 hwr rfl; clear hq5 c5 S5 hx5 q0 q1 q2 f5 f6 f7 d0 d1 d2 d3 y5 yq5; generalize w5.setCell ⟨wr.heap.size, 2, none⟩ (.slice ta n tc) = w5 at hP ⊢; obtain ⟨hq5, c5, hs5, hx5⟩ := hP; have S5 := Lib.hid hs5; clear hs5; obtain ⟨y5, d0, d1, d2, d3⟩ := row4 hx5; obtain ⟨yq5, q0, q1, q2⟩ := row3 hq5; have f5 := row_free hq5 0; have f6 := row_free hq5 1; have f7 := row_free hq5 2)
          | ((with_reducible refine store_int_lit 3 (.tmp 63) _ wr.heap.size 1 .i64 (n : Int) ?_ ?_ ⟨_, q1⟩ f6 int_info1 ?_); (· rfl); (· rfl); simp only [Act.put]; have hP := zbox_put (k := 1) (v := .int .i64 (n : Int)) (r := zoneRow st n ta n tc) hq5 c5 S5.out hx5 hwr rfl; clear hq5 c5 S5 hx5 q0 q1 q2 f5 f6 f7 d0 d1 d2 d3 y5 yq5; generalize w5.setCell ⟨wr.heap.size, 1, none⟩ (.int .i64 (n : Int)) = w5 at hP ⊢; obtain ⟨hq5, c5, hs5, hx5⟩ := hP; have S5 := Lib.hid hs5; clear hs5; obtain ⟨y5, d0, d1, d2, d3⟩ := row4 hx5; obtain ⟨yq5, q0, q1, q2⟩ := row3 hq5; have f5 := row_free hq5 0; have f6 := row_free hq5 1; have f7 := row_free hq5 2)
          | ((with_reducible refine store_int_lit 3 (.tmp 72) _ wr.heap.size 0 .i64 3 ?_ ?_ ⟨_, q0⟩ f5 int_info1 ?_); (· rfl); (· rfl); simp only [Act.put]; have hP := zbox_put (k := 0) (v := .int .i64 3) (r := zoneRow 3 n ta n tc) hq5 c5 S5.out hx5 hwr rfl; clear hq5 c5 S5 hx5 q0 q1 q2 f5 f6 f7 d0 d1 d2 d3 y5 yq5; generalize w5.setCell ⟨wr.heap.size, 0, none⟩ (.int .i64 3) = w5 at hP ⊢; obtain ⟨hq5, c5, hs5, hx5⟩ := hP; have S5 := Lib.hid hs5; clear hs5; obtain ⟨y5, d0, d1, d2, d3⟩ := row4 hx5; obtain ⟨yq5, q0, q1, q2⟩ := row3 hq5; have f5 := row_free hq5 0; have f6 := row_free hq5 1; have f7 := row_free hq5 2)
          | ((with_reducible refine store_int_lit 3 (.tmp 77) _ wr.heap.size 0 .i64 0 ?_ ?_ ⟨_, q0⟩ f5 int_info1 ?_); (· rfl); (· rfl); simp only [Act.put]; have hP := zbox_put (k := 0) (v := .int .i64 0) (r := zoneRow 0 n ta n tc) hq5 c5 S5.out hx5 hwr rfl; clear hq5 c5 S5 hx5 q0 q1 q2 f5 f6 f7 d0 d1 d2 d3 y5 yq5; generalize w5.setCell ⟨wr.heap.size, 0, none⟩ (.int .i64 0) = w5 at hP ⊢; obtain ⟨hq5, c5, hs5, hx5⟩ := hP; have S5 := Lib.hid hs5; clear hs5; obtain ⟨y5, d0, d1, d2, d3⟩ := row4 hx5; obtain ⟨yq5, q0, q1, q2⟩ := row3 hq5; have f5 := row_free hq5 0; have f6 := row_free hq5 1; have f7 := row_free hq5 2)
          | ((with_reducible refine idx_store_zone 22 28 82 (.tmp 79) (.tmp 80) (.tmp 81) g7 (j * 3) (.int .i64 st) (.int .i64 (n : Int)) (.slice ta n tc) ?_ ?_ ?_ (T8.out _ c5) ?_ ?_ ?_); (· go_simp); (· rfl); (· rfl); (· exact zone_info); (· simp [Value.oneCell']); intro w9 e9; obtain ⟨⟨C9, O9, Z9⟩, hx9, hr9, b9, N9⟩ := E9.out _ _ ta n tc _ HFE.out c5 S5.out e9; clear e9; simp only [Act.put, List.setIfInBounds_toArray, List.set_cons_zero, List.set_cons_succ])
          | ((with_reducible refine idx_store_zone 22 28 82 (.tmp 79) (.tmp 80) (.tmp 81) g7 (j * 3) (.int .i64 0) (.int .i64 (n : Int)) (.slice ta n tc) ?_ ?_ ?_ (T8.out _ c5) ?_ ?_ ?_); (· go_simp); (· rfl); (· rfl); (· exact zone_info); (· simp [Value.oneCell']); intro w9 e9; obtain ⟨⟨C9, O9, Z9⟩, hx9, hr9, b9, N9⟩ := E9.out _ _ ta n tc _ HFE.out c5 S5.out e9; clear e9; simp only [Act.put, List.setIfInBounds_toArray, List.set_cons_zero, List.set_cons_succ])
          | ((with_reducible refine idx_store_zone 22 28 82 (.tmp 79) (.tmp 80) (.tmp 81) g7 (j * 3) (.int .i64 3) (.int .i64 (n : Int)) (.slice ta n tc) ?_ ?_ ?_ (T8.out _ c5) ?_ ?_ ?_); (· go_simp); (· rfl); (· rfl); (· exact zone_info); (· simp [Value.oneCell']); intro w9 e9; obtain ⟨⟨C9, O9, Z9⟩, hx9, hr9, b9, N9⟩ := E9.out _ _ ta n tc _ HFE.out c5 S5.out e9; clear e9; simp only [Act.put, List.setIfInBounds_toArray, List.set_cons_zero, List.set_cons_succ]))
            go_roundw
            case rel => exact ⟨j + 1, _, by go_num, by omega, O9, HNX.out ▸ Z9, hx9, hr9, b9, N9⟩
            case measure => simp [intOf]; omega
        · have hjkI : ¬ (j : Int) < (kl : Int) := by omega
          have hmw := hn4' (hkg2 hjk)
          clear hkg1 hkg2 hkk hn4' hn2' hvc
          rcases hf4 with ⟨h4 | ⟨h4, h5⟩, hfe⟩ | ⟨h4, h5, h6, hfe⟩ | ⟨h4, h5, h6, hfe⟩
          all_goals
            have HFE := Lib.hid hfe.symm
            clear hfe
            have hwr : w.heap.size < wr.heap.size := yv
            have hgr : g7 < wr.heap.size := (hown.lt g7 rfl).2
            have hpj : j < (partZ (crashZ keep) Z Z j).length := by rw [hpl]; omega
            have T8 := Lib.hid (fun (W : World) (hW : Below wr.heap.size wr W) => put_there (zowns_on hown hW) hzc hpj)
            have E9 := Lib.hid (fun (W w9 : World) (ta : Option Addr) (tn tc : Nat) (v : Int) (hv : v = fs) (hW : Below wr.heap.size wr W) (hs : StrsIn W (fun b => wr.heap.size < b) ta tn tc (L.take n)) (e : w9 = W.setCells g7 (j * 3) [.int .i64 v, .int .i64 (n : Int), .slice ta tn tc]) => by subst hv; exact crash_put hx hr hg hgr HF.out hown hzc hpj hb hN hgv7 hW hs e)
            go_wp2_with (first
          | (at_builtin; have E0 := strs_empty (wr.alloc (zoneRow st du sa sl sc)) (H := wr.heap.size + 1) (by simp only [World.size_alloc]); have c4 := ((Below.refl wr.heap.size wr).alloc (Nat.le_refl _) (zoneRow st du sa sl sc)).alloc (by simp only [World.size_alloc]; omega) (.cells #[] 9); refine append_list rfl _ _ rfl (wr.heap.size + 1) (.slice (some ⟨wr.heap.size + 1, 0, none⟩) 0 0) rfl E0 sa n sc (L.take n) rfl ((strs_cut hss n hnl).1.on c4 (Nat.le_refl _)) (by omega) (by simp only [World.size_alloc]; omega) ?_; intro v5 w5 hown5 hgrow5; have c5 := below_grow c4 E0 (by omega) (by simp only [World.size_alloc]; omega) hgrow5; have hq3 : (wr.alloc (zoneRow st du sa sl sc)).heap[wr.heap.size]? = some (zoneRow st du sa sl sc) := heap_alloc_new _ _; have hq5 := row_grow E0 hgrow5 (row_al hq3 (.cells #[] 9)) (by omega); obtain ⟨ta, tc, rfl, hs5⟩ := owns_strsIn (F := fun b => wr.heap.size < b) hown5 hsm (fun b h => by omega); have S5 := Lib.hid hs5; have hx5 := row_on c5 hx (lt_of_block hx); clear d0 d1 d2 d3; obtain ⟨y5, d0, d1, d2, d3⟩ := row4 hx5; obtain ⟨yq5, q0, q1, q2⟩ := row3 hq5; have f5 := row_free hq5 0; have f6 := row_free hq5 1; have f7 := row_free hq5 2; clear hown5 hgrow5 E0 hs5 zc0 zc1 zc2)
          | ((with_reducible refine store_slice_lit 26 (.tmp 59) _ wr.heap.size 2 ta n tc ?_ ?_ ⟨_, q2⟩ f7 str_slice_info1 ?_); (· rfl); (· rfl); simp only [Act.put]; have hP := zbox_put (k := 2) (v := .slice ta n tc) (r := zoneRow st du ta n tc) hq5 c5 S5.out hx5 hwr rfl; clear hq5 c5 S5 hx5 q0 q1 q2 f5 f6 f7 d0 d1 d2 d3 y5 yq5; generalize w5.setCell ⟨wr.heap.size, 2, none⟩ (.slice ta n tc) = w5 at hP ⊢; obtain ⟨hq5, c5, hs5, hx5⟩ := hP; have S5 := Lib.hid hs5; clear hs5; obtain ⟨y5, d0, d1, d2, d3⟩ := row4 hx5; obtain ⟨yq5, q0, q1, q2⟩ := row3 hq5; have f5 := row_free hq5 0; have f6 := row_free hq5 1; have f7 := row_free hq5 2)
          | ((with_reducible refine store_int_lit 3 (.tmp 63) _ wr.heap.size 1 .i64 (n : Int) ?_ ?_ ⟨_, q1⟩ f6 int_info1 ?_); (· rfl); (· rfl); simp only [Act.put]; have hP := zbox_put (k := 1) (v := .int .i64 (n : Int)) (r := zoneRow st n ta n tc) hq5 c5 S5.out hx5 hwr rfl; clear hq5 c5 S5 hx5 q0 q1 q2 f5 f6 f7 d0 d1 d2 d3 y5 yq5; generalize w5.setCell ⟨wr.heap.size, 1, none⟩ (.int .i64 (n : Int)) = w5 at hP ⊢; obtain ⟨hq5, c5, hs5, hx5⟩ := hP; have S5 := Lib.hid hs5; clear hs5; obtain ⟨y5, d0, d1, d2, d3⟩ := row4 hx5; obtain ⟨yq5, q0, q1, q2⟩ := row3 hq5; have f5 := row_free hq5 0; have f6 := row_free hq5 1; have f7 := row_free hq5 2)
          | ((with_reducible refine store_int_lit 3 (.tmp 72) _ wr.heap.size 0 .i64 3 ?_ ?_ ⟨_, q0⟩ f5 int_info1 ?_); (· rfl); (· rfl); simp only [Act.put]; have hP := zbox_put (k := 0) (v := .int .i64 3) (r := zoneRow 3 n ta n tc) hq5 c5 S5.out hx5 hwr rfl; clear hq5 c5 S5 hx5 q0 q1 q2 f5 f6 f7 d0 d1 d2 d3 y5 yq5; generalize w5.setCell ⟨wr.heap.size, 0, none⟩ (.int .i64 3) = w5 at hP ⊢; obtain ⟨hq5, c5, hs5, hx5⟩ := hP; have S5 := Lib.hid hs5; clear hs5; obtain ⟨y5, d0, d1, d2, d3⟩ := row4 hx5; obtain ⟨yq5, q0, q1, q2⟩ := row3 hq5; have f5 := row_free hq5 0; have f6 := row_free hq5 1; have f7 := row_free hq5 2)
          | ((with_reducible refine store_int_lit 3 (.tmp 77) _ wr.heap.size 0 .i64 0 ?_ ?_ ⟨_, q0⟩ f5 int_info1 ?_); (· rfl); (· rfl); simp only [Act.put]; have hP := zbox_put (k := 0) (v := .int .i64 0) (r := zoneRow 0 n ta n tc) hq5 c5 S5.out hx5 hwr rfl; clear hq5 c5 S5 hx5 q0 q1 q2 f5 f6 f7 d0 d1 d2 d3 y5 yq5; generalize w5.setCell ⟨wr.heap.size, 0, none⟩ (.int .i64 0) = w5 at hP ⊢; obtain ⟨hq5, c5, hs5, hx5⟩ := hP; have S5 := Lib.hid hs5; clear hs5; obtain ⟨y5, d0, d1, d2, d3⟩ := row4 hx5; obtain ⟨yq5, q0, q1, q2⟩ := row3 hq5; have f5 := row_free hq5 0; have f6 := row_free hq5 1; have f7 := row_free hq5 2)
          | ((with_reducible refine idx_store_zone 22 28 82 (.tmp 79) (.tmp 80) (.tmp 81) g7 (j * 3) (.int .i64 st) (.int .i64 (n : Int)) (.slice ta n tc) ?_ ?_ ?_ (T8.out _ c5) ?_ ?_ ?_); (· go_simp); (· rfl); (· rfl); (· exact zone_info); (· simp [Value.oneCell']); intro w9 e9; obtain ⟨⟨C9, O9, Z9⟩, hx9, hr9, b9, N9⟩ := E9.out _ _ ta n tc _ HFE.out c5 S5.out e9; clear e9; simp only [Act.put, List.setIfInBounds_toArray, List.set_cons_zero, List.set_cons_succ])
          | ((with_reducible refine idx_store_zone 22 28 82 (.tmp 79) (.tmp 80) (.tmp 81) g7 (j * 3) (.int .i64 0) (.int .i64 (n : Int)) (.slice ta n tc) ?_ ?_ ?_ (T8.out _ c5) ?_ ?_ ?_); (· go_simp); (· rfl); (· rfl); (· exact zone_info); (· simp [Value.oneCell']); intro w9 e9; obtain ⟨⟨C9, O9, Z9⟩, hx9, hr9, b9, N9⟩ := E9.out _ _ ta n tc _ HFE.out c5 S5.out e9; clear e9; simp only [Act.put, List.setIfInBounds_toArray, List.set_cons_zero, List.set_cons_succ])
          | ((with_reducible refine idx_store_zone 22 28 82 (.tmp 79) (.tmp 80) (.tmp 81) g7 (j * 3) (.int .i64 3) (.int .i64 (n : Int)) (.slice ta n tc) ?_ ?_ ?_ (T8.out _ c5) ?_ ?_ ?_); (· go_simp); (· rfl); (· rfl); (· exact zone_info); (· simp [Value.oneCell']); intro w9 e9; obtain ⟨⟨C9, O9, Z9⟩, hx9, hr9, b9, N9⟩ := E9.out _ _ ta n tc _ HFE.out c5 S5.out e9; clear e9; simp only [Act.put, List.setIfInBounds_toArray, List.set_cons_zero, List.set_cons_succ]))
            go_roundw
            case rel => exact ⟨j + 1, _, by go_num, by omega, O9, HNX.out ▸ Z9, hx9, hr9, b9, N9⟩
            case measure => simp [intOf]; omega
      · obtain rfl : j = len := by omega
        rw [partZ_all (crashZ keep) Z Z HLF.out HLF.out] at hzc
        go_wp2_with (first
          | ((with_reducible refine Plan.store_lit 24 (.tmp 4) _ (w.heap.size + 1) ?_ hr ?_ ?_ ?_ ?_ ?_ ?_); rotate_left; (· rfl); (· rfl); (· exact dev_info); (· rfl); (· simp [Value.oneCell']); simp only [Act.put]))
        have E9 := fun cs => refc_end (cs := cs) hg HF.out hown hzc hb
        exact bodyPost_ret (Plan.results_cell_tmp (p := 4) (q := 5) rfl _ _ _ _ _ _ _ rfl (setRow_heap _ _ _ _ _ _ hr) Try.underlying24 rfl dev_info) rfl ⟨_, _, rfl, (E9 _).1, (E9 _).2⟩
  · rw [if_neg hE, if_neg hE]
    have hE1 : (checkE D != 0) = true := by simp [hE]
    generalize checkE D = E at *
    have HC := Lib.hid hck
    clear hck hz hE
    obtain ⟨size, op, act, Z⟩ := D
    try simp only at hl hx0 hr0 hA HC
    go_enter Try.func18, Try.ntmps18
    generalize hw0 : (w.alloc (devRow size op act a len cap)).alloc (devRow 0 0 0 none 0 0) = w0 at *
    obtain ⟨y0, d0, d1, d2, d3⟩ := row4 hx0
    have n0 := lt_of_block hr0
    go_wp2_with (first
      | (go_at_call 14; ((with_reducible refine (HC.out _ hA).mono ?_); rintro e w1 ⟨rfl, hb1⟩; have hr1 := row_on hb1 hr0 (lt_of_block hr0); have b1 := hA.trans (hb1.mono hA.size)))
      | ((with_reducible refine Plan.store_lit 24 (.tmp 4) _ (w.heap.size + 1) ?_ hr1 ?_ ?_ ?_ ?_ ?_ ?_); rotate_left; (· rfl); (· rfl); (· exact dev_info); (· rfl); (· simp [Value.oneCell']); simp only [Act.put]))
    exact bodyPost_ret (Plan.results_cell_tmp (p := 4) (q := 5) rfl _ _ _ _ _ _ _ rfl (setRow_heap _ _ _ _ _ _ hr1) Try.underlying24 rfl dev_info) rfl ⟨none, 0, rfl, .inl ⟨rfl, rfl, rfl, rfl⟩, below_setRow b1 (show w.heap.size ≤ w.heap.size + 1 by omega) _⟩
end Go.Proofs.Ytlplomofgbmgaaa
