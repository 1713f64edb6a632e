/- MediaMore: a power failure that keeps more of the zones loses nothing that one which keeps less does not lose, one that keeps enough loses nothing, and a flush a second time changes nothing. No condition. -/
import Derived.Test.YtlplomofgbmgaaaPack15
import Derived.Test.YtlplomofgbmgaaaRows
import Derived.WalkKit
import Derived.ProofKit
import Derived.SliceStrings
import Derived.OpenShut
import Derived.ShutString
import Derived.ChangeOld
import Derived.Carry
import Derived.Below

/- The walks of the program's Crash for a list of which only the elements count, not the spare places. -/
namespace Go.Proofs.Ytlplomofgbmgaaa
open Go.RowKit Plan ZnsMath MedMath

/-- a list of numbers: its elements -/
def KeepAt (w : World) (ka : Option Addr) (kl : Nat) (keep : List Int) : Prop := keep.length = kl ∧ ∀ i, i < kl → ∃ x, ka = some x ∧ w.cell? (x.add i) = some (.int .i64 (keep.getD i 0))
theorem KeepAt.on {w w' : World} {ka : Option Addr} {kl : Nat} {keep : List Int} (h : KeepAt w ka kl keep) (hb : Below w.heap.size w w') : KeepAt w' ka kl keep :=
  ⟨h.1, fun i hi => by obtain ⟨x, h1, h2⟩ := h.2 i hi; exact ⟨x, h1, (hb.cell (block_lt_of_cell h2)).trans h2⟩⟩
set_option maxHeartbeats 1000000 in
set_option maxRecDepth 20000 in
theorem crashZoneAt_any (keep : List Int) (ka : Option Addr) (kl kc g i : Nat) (z : Zone) (size : Int) (a : Option Addr) (len cap : Nat) (w : World) (hg : w.heap[g]? = some (keepRow ka kl kc)) (hk : KeepAt w ka kl keep) (hs : IsStrs w a len cap z.sectors) (hr : rightB z size = true) (h64 : size ≤ 64) :
    Calls Try.prog 28 #[.int .i64 (i : Int), zoneV z a len cap, .pointer (some ⟨g, 0, none⟩)] w fun e w' => e = .returned (zoneV (crashZ keep i z) a (stays z keep i) (stays z keep i)) ∧ Below w.heap.size w w' := by
  have hl := hs.length
  have hst := stays_eq hr h64 keep i
  have hkl : keep.length = kl ∧ (i < kl ∨ keep.getD i 0 = 0) := by
    have hkl : keep.length = kl := hk.1
    refine ⟨hkl, ?_⟩
    rcases Nat.lt_or_ge i kl with h | h
    · exact .inl h
    · right
      rw [List.getD_eq_getElem?_getD, List.getElem?_eq_none (by omega)]
      rfl
  have hc : w.cell? ⟨g, 0, none⟩ = some (.slice ka kl kc) := cell_of_row _ _ 0 _ _ _ hg
  have hvol := fun W => volatile_any z a len cap W hl
  have hfl := fun W (h : Below w.heap.size w W) => failed_any z a len cap (stays z keep i) W (hs.on h (Nat.le_refl _)) (by omega)
  have hrr := (right_iff _ _).1 hr
  have hkg := hk.2 i
  have hxx : ∀ x, ka = some x → i < kl → x.block < w.heap.size := fun x hx hi => by
    obtain ⟨y, e, hcell⟩ := hkg hi
    obtain rfl := Option.some.inj (hx.symm.trans e)
    have := block_lt_of_cell hcell
    rwa [add_block] at this
  generalize hK : keep.getD i 0 = K at *
  have hkk : keepK z keep i = max 0 (min K (vol z)) := by unfold keepK; rw [hK]
  have hvr := vol_right hr h64
  change Calls Try.prog 28 #[.int .i64 (i : Int), zoneV z a len cap, .pointer (some ⟨g, 0, none⟩)] w fun e w' => e = .returned (zoneV (failed z (stays z keep i)) a (stays z keep i) (stays z keep i)) ∧ Below w.heap.size w w'
  generalize stays z keep i = n at *
  have hV0 := vol_ge z
  generalize vol z = V at *
  generalize keepK z keep i = kk at *
  have HV := Lib.hid hvol
  have HF := Lib.hid hfl
  have hgl := lt_of_block hg
  generalize hf : failed z n = fz at *
  obtain ⟨st, du, L⟩ := z
  obtain ⟨fs, fd, FL⟩ := fz
  change Calls Try.prog 28 #[.int .i64 (i : Int), .agg #[.int .i64 st, .int .i64 du, .slice a len cap], .pointer (some ⟨g, 0, none⟩)] w fun e w' => e = .returned (.agg #[.int .i64 fs, .int .i64 fd, .slice a n n]) ∧ Below w.heap.size w w'
  simp only at hrr hst hl
  have b0 := ((Below.refl w.heap.size w).alloc (Nat.le_refl _) (zoneRow st du a len cap)).alloc (by simp) (zoneRow 0 0 none 0 0)
  have r0 := heap_first2 w (zoneRow st du a len cap) (zoneRow 0 0 none 0 0)
  have r1 := heap_second w (zoneRow st du a len cap) (zoneRow 0 0 none 0 0)
  have hc0 := (b0.cell (p := ⟨g, 0, none⟩) hgl).trans hc
  have hq3 : (K < 0 ∧ wrap64 du = n) ∨ (¬ K < 0 ∧ ¬ V < K ∧ wrap64 (du + K) = n) ∨ (¬ K < 0 ∧ V < K ∧ wrap64 (du + V) = n) := by
    unfold wrap64
    omega
  have h00 : K = 0 → wrap64 du = n := fun h => by unfold wrap64; omega
  have hikk := hkl.2
  have hkx : i < kl → ∃ x, ka = some x ∧ w.cell? (x.add i) = some (.int .i64 K) ∧ x.block < w.heap.size := fun h => by
    obtain ⟨x, e, hcell⟩ := hkg h
    exact ⟨x, e, hcell, hxx x e h⟩
  clear hvol hfl hs hr hkg hxx hst hrr hkl hK hkk hf hk hg hvr hl
  have H00 := Lib.hid h00
  clear h00
  by_cases hik : i < kl
  · obtain ⟨x, rfl, hkc, hxb⟩ := hkx hik
    have hkc0 := (b0.cell (p := x.add i) (by rw [add_block]; exact hxb)).trans hkc
    have hikI : (i : Int) < (kl : Int) := by omega
    clear hikk hkx
    rcases hq3 with ⟨hK0, hmw⟩ | ⟨hK0, hKV, hmw⟩ | ⟨hK0, hKV, hmw⟩
    all_goals
      have HMW := Lib.hid hmw
      clear hmw
      go_enter Try.func28, Try.ntmps28
      generalize hw0 : (w.alloc (zoneRow st du a len cap)).alloc (zoneRow 0 0 none 0 0) = w0 at *
      obtain ⟨y0, d0, d1, d2⟩ := row3 r0
      go_wp2_with fail
      refine Plan.start (fun W => W.cell? ⟨g, 0, none⟩ = some (.slice (some x) kl kc) ∧ W.cell? (x.add i) = some (.int .i64 K) ∧ W.cell? ⟨w.heap.size, 0, none⟩ = some (.int .i64 st) ∧ W.cell? ⟨w.heap.size, 1, none⟩ = some (.int .i64 du) ∧ W.cell? ⟨w.heap.size, 2, none⟩ = some (.slice a len cap)) [(0, true), (1, true), (2, true), (3, true), (4, true), (5, true), (6, false), (7, true), (8, true)] (by kernel_rfl) (by kernel_rfl) (by kernel_rfl) (by kernel_rfl) ⟨hc0, hkc0, d0, d1, d2⟩ ?_
      simp only [List.map_cons, List.map_nil, List.getElem?_toArray, List.getElem?_cons_zero, List.getElem?_cons_succ]
      repeat (first | (refine Plan.take ?_ (by rfl) ?_ ?_; rotate_left; (· rintro w9 ⟨u0, u1, u2, u3, u4⟩; go_simp; (try rw [if_neg (by omega)]); (try rw [if_pos (by omega)]); all_goals (with_reducible rfl)); simp only [Act.put, List.setIfInBounds_toArray, List.set_cons_zero, List.set_cons_succ]) | (refine Plan.pass (by rfl) ?_; simp only [Act.put, List.setIfInBounds_toArray, List.set_cons_zero, List.set_cons_succ]))
      refine Plan.call (by rfl) 29 _ ?_ (HV.out _) ?_
      · go_simp
      rintro e w1 ⟨rfl, hb1⟩
      have hb1 := (Below.refl w0.heap.size w0).drew.trans hb1
      have b1 := b0.trans (hb1.mono b0.size)
      have r01 := row_on hb1 r0 (lt_of_block r0)
      have r11 := row_on hb1 r1 (lt_of_block r1)
      have hc1 := (b1.cell (p := ⟨g, 0, none⟩) hgl).trans hc
      have hkc1 := (b1.cell (p := x.add i) (by rw [add_block]; exact hxb)).trans hkc
      clear d0 d1 d2
      obtain ⟨y1, d0, d1, d2⟩ := row3 r01
      refine ⟨_, rfl, ⟨hc1, hkc1, d0, d1, d2⟩, ?_⟩
      simp only [Act.put, List.setIfInBounds_toArray, List.set_cons_zero, List.set_cons_succ]
      repeat (first | (refine Plan.take ?_ (by rfl) ?_ ?_; rotate_left; (· rintro w9 ⟨u0, u1, u2, u3, u4⟩; go_simp; (try rw [if_neg (by omega)]); (try rw [if_pos (by omega)]); all_goals (with_reducible rfl)); simp only [Act.put, List.setIfInBounds_toArray, List.set_cons_zero, List.set_cons_succ]) | (refine Plan.pass (by rfl) ?_; simp only [Act.put, List.setIfInBounds_toArray, List.set_cons_zero, List.set_cons_succ]))
      refine Plan.ends ?_
      go_wp2_with (first
        | (go_at_call 30; (try rw [HMW.out]); ((with_reducible refine (HF.out _ b1).mono ?_); rintro e w2 ⟨rfl, hb2⟩; have r12 := row_on hb2 r11 (lt_of_block r11); have b2 := b1.trans (hb2.mono b1.size)))
        | ((with_reducible refine Plan.store_lit 28 (.tmp 5) _ (w.heap.size + 1) ?_ r12 ?_ ?_ ?_ ?_ ?_ ?_); rotate_left; (· rfl); (· rfl); (· exact zone_info); (· rfl); (· simp [Value.oneCell']); simp only [Act.put]))
      exact bodyPost_ret (results_cell_row rfl _ _ _ _ _ _ _ rfl (setRow_heap _ _ _ _ _ _ r12) Try.underlying28 rfl zone_info) rfl ⟨rfl, below_setRow b2 (show w.heap.size ≤ w.heap.size + 1 by omega) _⟩
  · have hikI : ¬ (i : Int) < (kl : Int) := by omega
    have hmw := H00.out (hikk.resolve_left hik)
    have HMW := Lib.hid hmw
    clear hikk hkx hq3 hmw H00
    go_enter Try.func28, Try.ntmps28
    generalize hw0 : (w.alloc (zoneRow st du a len cap)).alloc (zoneRow 0 0 none 0 0) = w0 at *
    obtain ⟨y0, d0, d1, d2⟩ := row3 r0
    go_wp2_with (first
        | (go_at_call 30; (try rw [HMW.out]); ((with_reducible refine (HF.out _ b0).mono ?_); rintro e w2 ⟨rfl, hb2⟩; have r12 := row_on hb2 r1 (lt_of_block r1); have b2 := b0.trans (hb2.mono b0.size)))
        | ((with_reducible refine Plan.store_lit 28 (.tmp 5) _ (w.heap.size + 1) ?_ r12 ?_ ?_ ?_ ?_ ?_ ?_); rotate_left; (· rfl); (· rfl); (· exact zone_info); (· rfl); (· simp [Value.oneCell']); simp only [Act.put]))
    exact bodyPost_ret (results_cell_row rfl _ _ _ _ _ _ _ rfl (setRow_heap _ _ _ _ _ _ r12) Try.underlying28 rfl zone_info) rfl ⟨rfl, below_setRow b2 (show w.heap.size ≤ w.heap.size + 1 by omega) _⟩
set_option maxHeartbeats 2000000 in
set_option maxRecDepth 20000 in
theorem eachCrashAt_any (F : Nat → Prop) (D : Dev) (a : Option Addr) (len cap : Nat) (keep : List Int) (ka : Option Addr) (kl kc g : Nat) (w : World) (hF : ∀ b, F b → b < w.heap.size) (hz : ZonesIn w F a len cap D.zones) (hg : w.heap[g]? = some (keepRow ka kl kc)) (hk : KeepAt w ka kl keep) :
    Calls Try.prog 27 #[devV D a len cap, .func (Fn.func 28) #[] #[.pointer (some ⟨g, 0, none⟩)]] w (MedPost w F len D (if checkE D = 0 then ⟨D.size, D.maxOpen, D.maxActive, D.zones.mapIdx (crashZ keep)⟩ else zero)) := by
  have hl := hz.is.length
  have hck := fun W (h : Below w.heap.size w W) => check_zns D a len cap W (hz.is.on h (Nat.le_refl _))
  have hA := ((Below.refl w.heap.size w).alloc (Nat.le_refl _) (devRow D.size D.maxOpen D.maxActive a len cap)).alloc (by simp) (devRow 0 0 0 none 0 0)
  have hx0 := heap_first2 w (devRow D.size D.maxOpen D.maxActive a len cap) (devRow 0 0 0 none 0 0)
  have hr0 := heap_second w (devRow D.size D.maxOpen D.maxActive a len cap) (devRow 0 0 0 none 0 0)
  unfold MedPost DevPost
  by_cases hE : checkE D = 0
  · rw [if_pos hE, if_pos hE]
    rw [hE] at hck ⊢
    obtain ⟨h1, h2, -, -⟩ := check_parts hE
    have hp := config_parts h1
    have hn1 : 1 ≤ len := by omega
    have hn2 : len ≤ 32 := by omega
    obtain ⟨x, rfl⟩ : ∃ x, a = some x := by
      rcases hz with ⟨_, rfl, _, _⟩ | ⟨x, rfl, _⟩
      · omega
      · exact ⟨x, rfl⟩
    have hzo : ∀ W, Below w.heap.size w W → ∀ j, j < len → ∃ z sa sl sc, D.zones[j]? = some z ∧ ZoneAt W x j z sa sl sc ∧ StrsIn W F sa sl sc z.sectors := fun W h j hj => by
      obtain ⟨x', z, sa, sl, sc, hx', k1, k2, k3⟩ := (hz.on (Agree.below (F := F) h)).zone j hj
      obtain rfl := Option.some.inj hx'
      exact ⟨z, sa, sl, sc, k1, k2, k3⟩
    have hcl : ∀ W, Below w.heap.size w W → ∀ (j : Nat) z sa sl sc, D.zones[j]? = some z → StrsIn W F sa sl sc z.sectors → Calls Try.prog 28 #[.int .i64 (j : Int), zoneV z sa sl sc, .pointer (some ⟨g, 0, none⟩)] W fun e w' => ∃ tl tc, e = .returned (zoneV ((crashZ keep) j z) sa tl tc) ∧ StrsIn w' F sa tl tc ((crashZ keep) j z).sectors ∧ Below W.heap.size W w' := by
      intro W hW j z sa sl sc hzj hss
      have hrz := right_all h2 hzj
      have hst := stays_eq hrz (by omega) keep j
      have hsl := hss.1.length
      refine (crashZoneAt_any keep ka kl kc g j z D.size sa sl sc W (row_on hW hg (lt_of_block hg)) (hk.on hW) hss.1 hrz (by omega)).mono ?_
      rintro e w' ⟨rfl, hb⟩
      exact ⟨_, _, rfl, strs_take (hss.on (Agree.below hb)) _ (by omega), hb⟩
    clear hg hk
    have hF1 : ∀ n, w.heap.size ≤ n → ¬ F n := fun n h hf => by have := hF n hf; omega
    obtain ⟨i1, hi1, hy0, hy1, hy2⟩ := info_parts zone_info6
    have HC := Lib.hid hck
    have HZ := Lib.hid hzo
    have HCL := Lib.hid hcl
    have HF := Lib.hid hF
    have HF1 := Lib.hid hF1
    clear hck hzo hcl hz hE hF hF1 h1 h2
    obtain ⟨size, op, act, Z⟩ := D
    try simp only at hl hx0 hr0 hA hp HC HZ HCL
    generalize hgg : (crashZ keep) = G at *
    clear hgg
    have HP := Lib.hid hp
    clear hp
    go_enter Try.func27, Try.ntmps27
    generalize hw0 : (w.alloc (devRow size op act (some x) len cap)).alloc (devRow 0 0 0 none 0 0) = w0 at *
    obtain ⟨y0, d0, d1, d2, d3⟩ := row4 hx0
    have n0 := lt_of_block hr0
    go_wp2_with (first
      | (go_at_call 42; ((with_reducible refine (HC.out _ hA).mono ?_); rintro e w1 ⟨rfl, hb1⟩; have hx1 := row_on hb1 hx0 (lt_of_block hx0); have hr1 := row_on hb1 hr0 (lt_of_block hr0); have b1 := hA.trans (hb1.mono hA.size); have n1 := hb1.size; clear d0 d1 d2 d3; obtain ⟨y1, d0, d1, d2, d3⟩ := row4 hx1))
      | (at_make; refine wpList_make_full _ rfl _ _ 22 rfl w1.heap.size 28 i1 _ 3 Try.underlying22 hi1 hy0 hy1 .i64 .i64 (len : Int) (len : Int) len rfl rfl rfl rfl (by rw [hy2]; omega) (by unfold maxLen; omega) (Nat.le_refl _) ?_; intro w2 hown2 hgrow2; have O2 := made_owns hown2; have Z2 := made_cells w2 F len; have hx2 := (hgrow2.block w.heap.size (lt_of_block hx1) (by simp)).trans hx1; have hr2 := (hgrow2.block (w.heap.size + 1) (lt_of_block hr1) (by simp)).trans hr1; have b2 := b1.grown hgrow2 b1.size (fun k hk => by cases hk); obtain ⟨y2, d0, d1, d2, d3⟩ := row4 hx2; clear hown2 hgrow2))
    have hgH : w.heap.size + 1 < w1.heap.size := by omega
    generalize w1.heap.size = H at *
    go_loopw [23] (fun c wr => ∃ (j : Nat) (C : List Value), c = .int .i64 j ∧ j ≤ len ∧ wr.ownsRow H 28 3 (.slice (some ⟨H, 0, none⟩) len len) len C ∧ ZCells wr F C (partZ G Z (List.replicate len empty) j) ∧ wr.heap[w.heap.size]? = some (devRow size op act (some x) len cap) ∧ wr.heap[w.heap.size + 1]? = some (devRow 0 0 0 none 0 0) ∧ Below w.heap.size w wr) (fun c _ => len - (intOf c).toNat)
    case atStart => exact ⟨0, _, rfl, by omega, O2, by rw [partZ_zero]; exact Z2, hx2, hr2, b2⟩
    case round =>
      obtain ⟨j, C, rfl, hj, hown, hzc, hx, hr, hb⟩ := hrel
      clear d0 d1 d2 d3
      obtain ⟨yv, d0, d1, d2, d3⟩ := row4 hx
      by_cases hlt : j < len
      · obtain ⟨z, sa, sl, sc, hzk, hza, hss⟩ := HZ.out wr hb j hlt
        have hjI : (j : Int) < (len : Int) := by omega
        obtain ⟨zc0, zc1, zc2⟩ := hza
        have b1 := hb.alloc hb.size (zoneRow z.state z.durable sa sl sc)
        have hcall := HCL.out _ b1 j z sa sl sc hzk (hss.on (Agree.below ((Below.refl _ _).alloc (Nat.le_refl _) (zoneRow z.state z.durable sa sl sc))))
        have hnx := partZ_next G (Y := List.replicate len empty) (by rw [List.length_replicate]; exact hl.symm) hzk
        have hpl := partZ_length G (Z := Z) (Y := List.replicate len empty) (by rw [List.length_replicate]; exact hl.symm) j
        have hown1 := zowns_on hown ((Below.refl _ _).alloc (Nat.le_refl _) (zoneRow z.state z.durable sa sl sc))
        have hzc1 := hzc.on (Agree.below ((Below.refl _ _).alloc (Nat.le_refl _) (zoneRow z.state z.durable sa sl sc)))
        have hx1 := row_al hx (zoneRow z.state z.durable sa sl sc)
        have hr1 := row_al hr (zoneRow z.state z.durable sa sl sc)
        generalize G j z = y at hcall hnx
        obtain ⟨st, du, L⟩ := z
        obtain ⟨ys, yd, YL⟩ := y
        have HCALL := Lib.hid hcall
        clear hcall
        go_wp2_with (first
          | (go_at_call 28; ((with_reducible refine HCALL.out.mono ?_); rintro e w4 ⟨tl, tc, rfl, hss4, hb4⟩; have hown4 := zowns_on hown1 hb4; have hzc4 := hzc1.on (Agree.below hb4); have hx4 := row_on hb4 hx1 (lt_of_block hx1); have hr4 := row_on hb4 hr1 (lt_of_block hr1); have b4 := b1.trans (hb4.mono b1.size); have T8 := put_there hown4 hzc4 (show j < _ by rw [hpl]; omega); have E9 := Lib.hid (each_put (st := ys) (du := yd) hx4 hr4 hgH (HF1.out H (by omega)) hown4 hzc4 (show j < _ by rw [hpl]; omega) hss4 b4)))
          | ((with_reducible refine idx_store_zone 22 28 34 (.tmp 28) (.tmp 29) (.tmp 33) H (j * 3) (.int .i64 ys) (.int .i64 yd) (.slice sa tl tc) ?_ ?_ ?_ T8 ?_ ?_ ?_); (· go_simp); (· rfl); (· rfl); (· exact zone_info); (· simp [Value.oneCell']); intro w9 e9; obtain ⟨⟨C9, O9, Z9⟩, hx9, hr9, b9⟩ := E9.out w9 e9; clear e9; simp only [Act.put, List.setIfInBounds_toArray, List.set_cons_zero, List.set_cons_succ]))
        rw [hnx] at Z9
        go_roundw
        case rel => exact ⟨j + 1, _, by go_num, by omega, O9, Z9, hx9, hr9, b9⟩
        case measure => simp [intOf]; omega
      · obtain rfl : j = len := by omega
        rw [partZ_all G Z _ hl (by simp)] at hzc
        have E9 := Lib.hid (each_end hr hgH HF.out hown hzc hb)
        have n2 := fun u => (E9.out u).1
        have f3 := row_free hx 3
        go_wp2_with (first
          | ((with_reducible refine Plan.store_lit 24 (.tmp 4) _ (w.heap.size + 1) ?_ (n2 _) ?_ ?_ ?_ ?_ ?_ ?_); rotate_left; (· rfl); (· rfl); (· exact dev_info); (· rfl); (· simp [Value.oneCell']); simp only [Act.put]))
        exact bodyPost_ret (Plan.results_cell_tmp (p := 4) (q := 5) rfl _ _ _ _ _ _ _ rfl (setRow_heap _ _ _ _ _ _ (n2 _)) Try.underlying24 rfl dev_info) rfl ⟨_, _, rfl, ((E9.out _).2 _).1, ((E9.out _).2 _).2⟩
  · rw [if_neg hE, if_neg hE]
    have hE1 : (checkE D != 0) = true := by simp [hE]
    generalize checkE D = E at *
    have HC := Lib.hid hck
    clear hck hz hE hg hk
    obtain ⟨size, op, act, Z⟩ := D
    try simp only at hl hx0 hr0 hA HC
    go_enter Try.func27, Try.ntmps27
    generalize hw0 : (w.alloc (devRow size op act a len cap)).alloc (devRow 0 0 0 none 0 0) = w0 at *
    obtain ⟨y0, d0, d1, d2, d3⟩ := row4 hx0
    have n0 := lt_of_block hr0
    go_wp2_with (first
      | (go_at_call 42; ((with_reducible refine (HC.out _ hA).mono ?_); rintro e w1 ⟨rfl, hb1⟩; have hr1 := row_on hb1 hr0 (lt_of_block hr0); have b1 := hA.trans (hb1.mono hA.size)))
      | ((with_reducible refine Plan.store_lit 24 (.tmp 4) _ (w.heap.size + 1) ?_ hr1 ?_ ?_ ?_ ?_ ?_ ?_); rotate_left; (· rfl); (· rfl); (· exact dev_info); (· rfl); (· simp [Value.oneCell']); simp only [Act.put]))
    exact bodyPost_ret (Plan.results_cell_tmp (p := 4) (q := 5) rfl _ _ _ _ _ _ _ rfl (setRow_heap _ _ _ _ _ _ hr1) Try.underlying24 rfl dev_info) rfl ⟨none, 0, rfl, .inl ⟨rfl, rfl, rfl, rfl⟩, below_setRow b1 (show w.heap.size ≤ w.heap.size + 1 by omega) _⟩
set_option maxHeartbeats 1000000 in
set_option maxRecDepth 20000 in
theorem crashAt_any (F : Nat → Prop) (D : Dev) (a : Option Addr) (len cap : Nat) (keep : List Int) (ka : Option Addr) (kl kc : Nat) (w : World) (hF : ∀ b, F b → b < w.heap.size) (hz : ZonesIn w F a len cap D.zones) (hk : KeepAt w ka kl keep) :
    Calls Try.prog 12 #[devV D a len cap, .slice ka kl kc] w (MedPost w F len D (crashR D keep)) := by
  have hA := (((Below.refl w.heap.size w).alloc (Nat.le_refl _) (devRow D.size D.maxOpen D.maxActive a len cap)).alloc (by simp) (keepRow ka kl kc)).alloc (by simp; omega) (devRow 0 0 0 none 0 0)
  have hr0 := heap_third w (devRow D.size D.maxOpen D.maxActive a len cap) (keepRow ka kl kc) (devRow 0 0 0 none 0 0)
  have hk0 := row_al (heap_second w (devRow D.size D.maxOpen D.maxActive a len cap) (keepRow ka kl kc)) (devRow 0 0 0 none 0 0)
  have hx0 := row_al (heap_first2 w (devRow D.size D.maxOpen D.maxActive a len cap) (keepRow ka kl kc)) (devRow 0 0 0 none 0 0)
  have hs0 : (((w.alloc (devRow D.size D.maxOpen D.maxActive a len cap)).alloc (keepRow ka kl kc)).alloc (devRow 0 0 0 none 0 0)).heap.size = w.heap.size + 3 := by simp
  have hea := eachCrashAt_any F D a len cap keep ka kl kc (w.heap.size + 1) (((w.alloc (devRow D.size D.maxOpen D.maxActive a len cap)).alloc (keepRow ka kl kc)).alloc (devRow 0 0 0 none 0 0)) (fun b hb => Nat.lt_of_lt_of_le (hF b hb) hA.size) (hz.on (Agree.below hA)) hk0 (hk.on hA)
  rw [← crash_eq] at hea
  unfold MedPost DevPost at hea ⊢
  generalize (if checkE D = 0 then len else 0) = n at *
  generalize crashR D keep = R at *
  generalize checkE D = E at *
  obtain ⟨rs, ro, ra, RZ⟩ := R
  obtain ⟨size, op, act, Z⟩ := D
  try simp only at hea hx0 hr0 hA hs0 hk0
  have HE := Lib.hid hea
  have HF := Lib.hid hF
  clear hea hz hF hk
  go_enter Try.func12, Try.ntmps12
  generalize hw0 : ((w.alloc (devRow size op act a len cap)).alloc (keepRow ka kl kc)).alloc (devRow 0 0 0 none 0 0) = w0 at *
  obtain ⟨y0, d0, d1, d2, d3⟩ := row4 hx0
  go_wp2_with (first
    | (go_at_call 27; ((with_reducible refine HE.out.mono ?_); rintro e w1 ⟨a1, c1, rfl, hz1, hb1⟩; have hr1 := row_on hb1 hr0 (lt_of_block hr0); have b1 := hA.trans (hb1.mono hA.size); have hz2 := fun cs => hz1.on (Agree.row (r := w.heap.size + 1 + 1) (by rintro (h | h); (· have := HF.out _ h; omega); (· omega)) cs)))
    | ((with_reducible refine Plan.store_lit 24 (.tmp 4) _ (w.heap.size + 1 + 1) ?_ hr1 ?_ ?_ ?_ ?_ ?_ ?_); rotate_left; (· rfl); (· rfl); (· exact dev_info); (· rfl); (· simp [Value.oneCell']); simp only [Act.put]))
  exact bodyPost_ret (Plan.results_cell_tmp (p := 4) (q := 5) rfl _ _ _ _ _ _ _ rfl (setRow_heap _ _ _ _ _ _ hr1) Try.underlying24 rfl dev_info) rfl ⟨_, _, rfl, (hz2 _).mono (fun _ _ h => by rcases h with h | h; (· exact .inl h); (· exact .inr (by omega))), below_setRow b1 (show w.heap.size ≤ w.heap.size + 1 + 1 by omega) _⟩
theorem crashAt_is {size op act : Int} {Z Z' : List Zone} (hc : checkE ⟨size, op, act, Z⟩ = 0) (a : Option Addr) (n cap : Nat) (keep : List Int) (ka : Option Addr) (kl kc : Nat) (W : World) (hz : IsZones W a n cap Z) (hk : KeepAt W ka kl keep) (hZ : (crashD ⟨size, op, act, Z⟩ keep).zones = Z') :
    Calls Try.prog 12 #[.agg #[.int .i64 size, .int .i64 op, .int .i64 act, .slice a n cap], .slice ka kl kc] W (DevOk W n size op act Z') := by
  have h := crashAt_any _ ⟨size, op, act, Z⟩ a n cap keep ka kl kc W (fun _ h => h) (ZonesIn.of hz) hk
  unfold MedPost DevPost at h
  rw [crashR, if_pos hc, if_pos hc, hc] at h
  subst hZ
  refine h.mono ?_
  rintro e w' ⟨a', cap', rfl, hz', hb⟩
  exact ⟨a', cap', rfl, hz'.is, hb⟩
/-- a device in a box -/
structure Box (W : World) (X : Nat) (ds op da : Int) (Z : List Zone) (a : Option Addr) (n c : Nat) : Prop where
  row : W.heap[X]? = some (devRow ds op da a n c)
  zones : IsZones W a n c Z
theorem Box.on {W W' : World} {X : Nat} {ds op da : Int} {Z : List Zone} {a : Option Addr} {n c : Nat} (h : Box W X ds op da Z a n c) (hb : Below W.heap.size W W') : Box W' X ds op da Z a n c := ⟨row_on hb h.row (lt_of_block h.row), h.zones.on hb (Nat.le_refl _)⟩
theorem Box.drew {W : World} {X : Nat} {ds op da : Int} {Z : List Zone} {a : Option Addr} {n c : Nat} (h : Box W X ds op da Z a n c) : Box W.drew X ds op da Z a n c := h.on (Below.refl _ _).drew
theorem Box.made {W : World} {ds op da : Int} {Z : List Zone} {a : Option Addr} {n c : Nat} (h : IsZones W a n c Z) : Box (W.alloc (devRow ds op da a n c)) W.heap.size ds op da Z a n c := ⟨heap_alloc_new W _, h.on ((Below.refl _ _).alloc (Nat.le_refl _) _) (Nat.le_refl _)⟩
theorem Box.al {W : World} {X : Nat} {ds op da : Int} {Z : List Zone} {a : Option Addr} {n c : Nat} (h : Box W X ds op da Z a n c) (o : Obj) : Box (W.alloc o) X ds op da Z a n c := h.on ((Below.refl _ _).alloc (Nat.le_refl _) o)
/-- a flush a second time changes nothing -/
theorem dur_twice (D : Dev) : (durD ⟨D.size, D.maxOpen, D.maxActive, (durD D).zones⟩).zones = (durD D).zones := by
  show ((D.zones.map durZ).map durZ) = D.zones.map durZ
  rw [List.map_map]
  apply List.map_congr_left
  intro z _
  rfl
/-- a failure that keeps more loses nothing that one which keeps less does not lose -/
theorem more_rel {size op act : Int} {Z : List Zone} (hc : checkE ⟨size, op, act, Z⟩ = 0) (K M A : List Int) (hKM : ∀ i, K.getD i 0 ≤ M.getD i 0) (hA : ∀ i, i < Z.length → A.getD i 0 = size) (j : Nat) (z : Zone) (hz : Z[j]? = some z) :
    ∃ x y t : Zone, (crashD ⟨size, op, act, Z⟩ K).zones[j]? = some x ∧ (crashD ⟨size, op, act, Z⟩ M).zones[j]? = some y ∧ (crashD ⟨size, op, act, Z⟩ A).zones[j]? = some t ∧ x.sectors.length ≤ y.sectors.length ∧ t.sectors.length = z.sectors.length := by
  obtain ⟨h1, h2, -, -⟩ := check_parts hc
  have h64 : size ≤ 64 := (config_parts h1).2.2.2.1
  have hr : rightB z size = true := right_all h2 hz
  have hrr := (right_iff _ _).1 hr
  have s1 := stays_eq hr h64 K j
  have s2 := stays_eq hr h64 M j
  have s3 := stays_eq hr h64 A j
  have hjl := (List.getElem?_eq_some_iff.1 hz).1
  have e1 := hKM j
  have e2 := hA j hjl
  have hl : ∀ K : List Int, stays z K j ≤ z.sectors.length → (crashZ K j z).sectors.length = stays z K j := fun K h => by
    show (List.take _ _).length = _
    rw [List.length_take]; omega
  refine ⟨_, _, _, crash_get (D := ⟨size, op, act, Z⟩) hz K, crash_get (D := ⟨size, op, act, Z⟩) hz M, crash_get (D := ⟨size, op, act, Z⟩) hz A, ?_, ?_⟩
  · rw [hl K s1.2.2.1, hl M s2.2.2.1]
    omega
  · rw [hl A s3.2.2.1]
    omega
end Go.Proofs.Ytlplomofgbmgaaa

/- A region that draws its order in which three lists of numbers grow by one each, in any order. -/
namespace Go.Proofs.Ytlplomofgbmgaaa.Many
open Go.RowKit

section
variable {P : Program} {ops : Array Oper} {Q : Exit → Act → World → Prop} {S : World → Prop}
/-- operations that are taken first, and what stands behind them -/
def goesE (P : Program) (ops : Array Oper) (S : World → Prop) (E : Act → Prop) : List (Option Oper) → Act → Prop
  | [], a => E a
  | none :: _, _ => False
  | some o :: r, a => ∃ v, YieldsIf P ops S o v a ∧ goesE P ops S E r (a.put o.dst v)
def goodE (ops : Array Oper) : List Nat → Array Bool → Bool
  | [], _ => true
  | k :: r, listed => (Region.ready .any ops listed).contains k && Region.free .any ops listed k && goodE ops r (listed.setIfInBounds k true)
def listE : List Nat → Array Bool → Array Bool
  | [], listed => listed
  | k :: r, listed => listE r (listed.setIfInBounds k true)
theorem held_of_takes (hs : Region.noSelect ops = true) (hQ : ∀ c a d v w, Q (.panic c) (Act.put a d v) w → Q (.panic c) a w) (fuel : Nat) (E : Act → Prop) (w : World) (hS : S w) :
    ∀ (ks : List Nat) (listed : Array Bool) (a : Act), goodE ops ks listed = true → (∀ a, E a → wpAnyH P .any ops Q S fuel (listE ks listed) a w) →
      goesE P ops S E (ks.map fun k => ops[k]?) a → wpAnyH P .any ops Q S (fuel + ks.length) listed a w
  | [], listed, a, _, hE, h => hE a h
  | k :: r, listed, a, hB, hE, h => by
    simp only [goodE, Bool.and_eq_true] at hB
    simp only [List.map_cons] at h
    cases ho : ops[k]? with
    | none => rw [ho] at h; exact h.elim
    | some o =>
      rw [ho] at h
      obtain ⟨v, hy, hr⟩ := h
      exact wpAnyH_take ho hs hB.1.2 hB.1.1 (fun c a w => hQ c a o.dst v w) hy hS (held_of_takes hs hQ fuel E w hS r _ _ hB.2 hE hr)
theorem take {E : Act → Prop} {o : Oper} {r : List (Option Oper)} {a : Act} (v : Value) (hw : Region.wanted o (yielded ops a.tmps) = true) (hv : ∀ w, S w → (execOp a.eval o).run P w = .ok (.value v) w)
    (h : goesE P ops S E r (a.put o.dst v)) : goesE P ops S E (some o :: r) a := ⟨v, .inl ⟨hw, hv⟩, h⟩
end
def ints (L : List Int) : List Value := L.map (Value.int .i64)
theorem ints_length (L : List Int) : (ints L).length = L.length := by simp [ints]
theorem ints_snoc (L : List Int) (x : Int) : ints (L ++ [x]) = ints L ++ [.int .i64 x] := by simp [ints]
/-- the numbers of three chains: operation and slot of the new row, operation and slot of the append, slots of the number and of the list -/
structure Wires where
  ob : Fin 3 → Nat
  oa : Fin 3 → Nat
  pb : Fin 3 → Nat
  qa : Fin 3 → Nat
  xv : Fin 3 → Nat
  sv : Fin 3 → Nat
def Wires.apart (W : Wires) : Prop :=
  (∀ c d, W.pb c ≠ W.qa d) ∧ (∀ c d, c ≠ d → W.pb c ≠ W.pb d ∧ W.qa c ≠ W.qa d) ∧ (∀ c d, W.xv c ≠ W.pb d ∧ W.xv c ≠ W.qa d ∧ W.sv c ≠ W.pb d ∧ W.sv c ≠ W.qa d)
def upd (s : Fin 3 → Nat) (c : Fin 3) (n : Nat) : Fin 3 → Nat := fun d => if d = c then n else s d
def updV {α : Type} (s : Fin 3 → α) (c : Fin 3) (n : α) : Fin 3 → α := fun d => if d = c then n else s d
theorem updV_same {α : Type} (s : Fin 3 → α) (c : Fin 3) (n : α) : updV s c n c = n := if_pos rfl
theorem updV_ne {α : Type} (s : Fin 3 → α) {c d : Fin 3} (n : α) (h : d ≠ c) : updV s c n d = s d := if_neg h
theorem upd_same (s : Fin 3 → Nat) (c : Fin 3) (n : Nat) : upd s c n c = n := if_pos rfl
theorem upd_ne (s : Fin 3 → Nat) {c d : Fin 3} (n : Nat) (h : d ≠ c) : upd s c n d = s d := if_neg h
/-- where the three chains stand: 0 ahead, 1 the row is made, 2 it is appended -/
structure St (W : Wires) (T : Array Value) (df : Act) (wB : World) (B : Nat) (x : Fin 3 → Int) (v0 : Fin 3 → Value) (L0 : Fin 3 → List Int) (s : Fin 3 → Nat) (p v : Fin 3 → Value) (L : Fin 3 → List Int) (a : Act) (w : World) : Prop where
  defers : a.defers = df.defers
  size : a.tmps.size = T.size
  hp : ∀ c, 1 ≤ s c → a.tmps[W.pb c]? = some (p c)
  hq : ∀ c, s c = 2 → a.tmps[W.qa c]? = some (v c)
  rest : ∀ k, (∀ c, k ≠ W.pb c ∧ k ≠ W.qa c) → a.tmps[k]? = T[k]?
  v0 : ∀ c, s c ≠ 2 → v c = v0 c ∧ L c = L0 c
  L2 : ∀ c, s c = 2 → L c = L0 c ++ [x c]
  own : ∀ c, w.ownsRow B 3 1 (v c) (L c).length (ints (L c))
  far : ∀ c d, c ≠ d → ∀ g, (v c).ownBlock = some g → (v d).ownBlock ≠ some g
  row : ∀ c, s c = 1 → ∃ g, p c = .slice (some ⟨g, 0, none⟩) 1 1 ∧ w.cell? ⟨g, 0, none⟩ = some (.int .i64 (x c)) ∧ ∀ d, (v d).ownBlock ≠ some g
  below : Below B wB w
  base : B ≤ w.heap.size
theorem put_get {a : Act} {k : Nat} {u : Value} (h : k < a.tmps.size) : (a.put (some k) u).tmps[k]? = some u := by
  simp [Act.put, h]
theorem put_ne {a : Act} {k j : Nat} {u : Value} (h : j ≠ k) : (a.put (some k) u).tmps[j]? = a.tmps[j]? := by
  simp only [Act.put]
  rw [Array.getElem?_setIfInBounds_ne (fun e => h e.symm)]
section
variable {W : Wires} {T : Array Value} {df : Act} {wB : World} {B : Nat} {x : Fin 3 → Int} {v0 : Fin 3 → Value} {L0 : Fin 3 → List Int} {s : Fin 3 → Nat} {p v : Fin 3 → Value} {L : Fin 3 → List Int} {a : Act} {w : World}
theorem St.build (hW : W.apart) (h : St W T df wB B x v0 L0 s p v L a w) (c : Fin 3) (hc : s c = 0) (hb : W.pb c < T.size) :
    St W T df wB B x v0 L0 (upd s c 1) (updV p c (.slice (some ⟨w.heap.size, 0, none⟩) 1 1)) v L (a.put (some (W.pb c)) (.slice (some ⟨w.heap.size, 0, none⟩) 1 1)) (w.alloc (.cells #[.int .i64 (x c)] 3)) := by
  have hal : Below w.heap.size w (w.alloc (.cells #[.int .i64 (x c)] 3)) := (Below.refl _ _).alloc (Nat.le_refl _) _
  have hs : ∀ d, upd s c 1 d = 2 ↔ s d = 2 := fun d => by
    by_cases e : d = c
    · subst e; rw [upd_same]; omega
    · rw [upd_ne s 1 e]
  refine ⟨h.defers, by simpa [Act.put] using h.size, fun d hd => ?_, fun d hd => ?_, fun k hk => ?_, fun d hd => h.v0 d (fun e => hd ((hs d).2 e)), fun d hd => h.L2 d ((hs d).1 hd), fun d => zowns_on (h.own d) hal, h.far, fun d hd => ?_, h.below.alloc h.base _, by simp; have := h.base; omega⟩
  · by_cases e : d = c
    · subst e
      rw [updV_same, put_get (by rw [h.size]; exact hb)]
    · rw [updV_ne p _ e, put_ne (hW.2.1 d c e).1]
      rw [upd_ne s 1 e] at hd
      exact h.hp d hd
  · rw [put_ne (fun e => hW.1 c d e.symm)]
    exact h.hq d ((hs d).1 hd)
  · rw [put_ne (hk c).1]
    exact h.rest k hk
  · by_cases e : d = c
    · subst e
      rw [updV_same]
      refine ⟨_, rfl, cell_of_row _ _ 0 _ _ _ (heap_alloc_new w _), fun d' hd' => ?_⟩
      have := ((h.own d').lt _ hd').2
      omega
    · rw [upd_ne s 1 e] at hd
      rw [updV_ne p _ e]
      obtain ⟨g, h1, h2, h3⟩ := h.row d hd
      exact ⟨g, h1, (hal.cell (block_lt_of_cell h2)).trans h2, h3⟩
theorem St.append (hW : W.apart) (h : St W T df wB B x v0 L0 s p v L a w) (c : Fin 3) (hc : s c = 1) (hb : W.qa c < T.size) {g cap : Nat} {w' : World}
    (ho : w'.ownsRow B 3 1 (.slice (some ⟨g, 0, none⟩) ((L c).length + 1) cap) ((L c).length + 1) (ints (L c) ++ [.int .i64 (x c)])) (hg : w.grownBy w' (v c).ownBlock) (hat : (v c).ownBlock = some g ∨ g = w.heap.size) :
    St W T df wB B x v0 L0 (upd s c 2) p (updV v c (.slice (some ⟨g, 0, none⟩) ((L c).length + 1) cap)) (updV L c (L c ++ [x c])) (a.put (some (W.qa c)) (.slice (some ⟨g, 0, none⟩) ((L c).length + 1) cap)) w' := by
  have hs : ∀ d, d ≠ c → upd s c 2 d = s d := fun d e => upd_ne s 2 e
  have hob : ∀ d, d ≠ c → (v d).ownBlock ≠ some g := fun d e hd => by
    rcases hat with hat | hat
    · exact h.far c d (Ne.symm e) g hat hd
    · have := ((h.own d).lt _ hd).2
      omega
  have hgx : ∀ d, d ≠ c → ∀ y, (v d).ownBlock = some y → y ≠ g := fun d e y hy e2 => hob d e (e2 ▸ hy)
  have hcell : ∀ g' u, w.cell? ⟨g', 0, none⟩ = some u → (v c).ownBlock ≠ some g' → w'.cell? ⟨g', 0, none⟩ = some u := fun g' u hu hne => by
    rw [World.cell?_of_block (hg.block g' (block_lt_of_cell hu) (fun e => hne e.symm))]
    exact hu
  refine ⟨h.defers, by simpa [Act.put] using h.size, fun d hd => ?_, fun d hd => ?_, fun k hk => ?_, fun d hd => ?_, fun d hd => ?_, fun d => ?_, fun d d' hdd y hy => ?_, fun d hd => ?_, ?_, ?_⟩
  · rw [put_ne (hW.1 d c)]
    by_cases e : d = c
    · subst e; exact h.hp d (by omega)
    · rw [hs d e] at hd; exact h.hp d hd
  · by_cases e : d = c
    · subst e
      rw [updV_same, put_get (by rw [h.size]; exact hb)]
    · rw [hs d e] at hd
      rw [updV_ne v _ e, put_ne (hW.2.1 d c e).2]
      exact h.hq d hd
  · rw [put_ne (hk c).2]
    exact h.rest k hk
  · by_cases e : d = c
    · subst e; exact absurd (upd_same s d 2) hd
    · rw [hs d e] at hd
      rw [updV_ne v _ e, updV_ne L _ e]
      exact h.v0 d hd
  · by_cases e : d = c
    · subst e
      rw [updV_same, (h.v0 d (by omega)).2]
    · rw [hs d e] at hd
      rw [updV_ne L _ e]
      exact h.L2 d hd
  · by_cases e : d = c
    · subst e
      rw [updV_same, updV_same, ints_snoc, List.length_append]
      exact ho
    · rw [updV_ne v _ e, updV_ne L _ e]
      refine (h.own d).kept hg ?_
      cases hv : (v d).ownBlock with
      | none => exact .inl rfl
      | some y => exact .inr fun e2 => h.far d c e y hv e2.symm
  · by_cases e : d = c
    · subst e
      rw [updV_same] at hy
      obtain rfl : g = y := Option.some.inj hy
      rw [updV_ne v _ (Ne.symm hdd)]
      exact hob d' (Ne.symm hdd)
    · rw [updV_ne v _ e] at hy
      by_cases e' : d' = c
      · subst e'
        rw [updV_same]
        exact fun h2 => hgx d e y hy (Option.some.inj h2).symm
      · rw [updV_ne v _ e']
        exact h.far d d' hdd y hy
  · by_cases e : d = c
    · subst e
      rw [upd_same] at hd
      omega
    · rw [hs d e] at hd
      obtain ⟨y, h1, h2, h3⟩ := h.row d hd
      refine ⟨y, h1, hcell y _ h2 (h3 c), fun d' hd' => ?_⟩
      by_cases e' : d' = c
      · subst e'
        rw [updV_same] at hd'
        obtain rfl : g = y := Option.some.inj hd'
        rcases hat with hat | hat
        · exact h3 d' hat
        · have : g < w.heap.size := block_lt_of_cell h2
          omega
      · rw [updV_ne v _ e'] at hd'
        exact h3 d' hd'
  · exact h.below.grown hg h.base (fun k hk => ((h.own c).lt k hk).1)
  · exact Nat.le_trans h.base hg.size
end
end Go.Proofs.Ytlplomofgbmgaaa.Many

/- The walk of such a region, by where the chains stand. -/
namespace Go.Proofs.Ytlplomofgbmgaaa.Many
open Go.RowKit

theorem eval_tmp {a : Act} {k : Nat} {u : Value} (h : a.tmps[k]? = some u) : a.eval (.tmp k) = u := by
  show a.tmps.getD k undef = u
  rw [Array.getD_eq_getD_getElem?, h]
  rfl
def mk3 (i j k : Nat) : Fin 3 → Nat := fun c => if c = 0 then i else if c = 1 then j else k
theorem upd0 (i j k n : Nat) : upd (mk3 i j k) 0 n = mk3 n j k := by
  funext d
  unfold upd mk3
  by_cases h : d = 0
  · rw [if_pos h, if_pos h]
  · rw [if_neg h, if_neg h, if_neg h]
theorem upd1 (i j k n : Nat) : upd (mk3 i j k) 1 n = mk3 i n k := by
  funext d
  unfold upd mk3
  by_cases h : d = 1
  · subst h; rfl
  · rw [if_neg h]
    by_cases h0 : d = 0
    · rw [if_pos h0, if_pos h0]
    · rw [if_neg h0, if_neg h0, if_neg h, if_neg h]
theorem upd2 (i j k n : Nat) : upd (mk3 i j k) 2 n = mk3 i j n := by
  funext d
  unfold upd mk3
  by_cases h : d = 2
  · subst h; rfl
  · rw [if_neg h]
    by_cases h0 : d = 0
    · rw [if_pos h0, if_pos h0]
    · by_cases h1 : d = 1
      · rw [if_neg h0, if_neg h0, if_pos h1, if_pos h1]
      · omega
/-- the operation of a chain that comes next: an append comes behind that of the chain ahead -/
def nextOf (W : Wires) (c : Fin 3) (n : Nat) (ok : Bool) : List Nat := if n = 0 then [W.ob c] else if n = 1 ∧ ok = true then [W.oa c] else []
def nexts (W : Wires) (i j k : Nat) : List Nat := nextOf W 0 i true ++ nextOf W 1 j (i == 2) ++ nextOf W 2 k (j == 2)
def Li (W : Wires) (l0 : Array Bool) (i j k : Nat) : Array Bool :=
  let f := fun (c : Fin 3) (n : Nat) (l : Array Bool) => if n = 0 then l else if n = 1 then l.setIfInBounds (W.ob c) true else (l.setIfInBounds (W.ob c) true).setIfInBounds (W.oa c) true
  f 2 k (f 1 j (f 0 i l0))
def chk1 (W : Wires) (ops : Array Oper) (l0 : Array Bool) (i j k : Nat) : Bool :=
  (i == 2 && j == 2 && k == 2) || (j == 2 && i != 2) || (k == 2 && j != 2) || ((Region.ready .any ops (Li W l0 i j k) == nexts W i j k) &&
    (i == 2 || (Li W l0 i j k).setIfInBounds (if i = 0 then W.ob 0 else W.oa 0) true == Li W l0 (i + 1) j k) &&
    (j == 2 || (Li W l0 i j k).setIfInBounds (if j = 0 then W.ob 1 else W.oa 1) true == Li W l0 i (j + 1) k) &&
    (k == 2 || (Li W l0 i j k).setIfInBounds (if k = 0 then W.ob 2 else W.oa 2) true == Li W l0 i j (k + 1)))
def chk (W : Wires) (ops : Array Oper) (l0 : Array Bool) : Bool := [0, 1, 2].all fun i => [0, 1, 2].all fun j => [0, 1, 2].all fun k => chk1 W ops l0 i j k
section
variable {ops : Array Oper} {Q : Exit → Act → World → Prop} {S : World → Prop} {W : Wires} {T : Array Value} {df : Act} {wB : World} {B : Nat} {x : Fin 3 → Int} {v0 : Fin 3 → Value} {L0 : Fin 3 → List Int} {s : Fin 3 → Nat} {p v : Fin 3 → Value} {L : Fin 3 → List Int} {a : Act} {w : World}
/-- the operations as they are -/
structure Is (ops : Array Oper) (W : Wires) : Prop where
  ob : ∀ c, ∃ t pos after, ops[W.ob c]? = some ⟨some (W.pb c), .buildSlice 25 1 #[(0, .tmp (W.xv c))], t, pos, after, none⟩
  oa : ∀ c, ∃ t pos after, ops[W.oa c]? = some ⟨some (W.qa c), .call { callee := .builtin .append, args := #[.tmp (W.sv c), .tmp (W.pb c)], argTypes := #[25, 25] }, t, pos, after, none⟩
theorem run_one (ev : Operand → Value) (y : Operand) (n : Int) (h : ev y = .int .i64 n) (d : Option Tmp) (t : TypeId) (pos : String) (after : Array Edge) (w : World) :
    (execOp ev ⟨d, .buildSlice 25 1 #[(0, y)], t, pos, after, none⟩).run Try.prog w = .ok (.value (.slice (some ⟨w.heap.size, 0, none⟩) 1 1)) (w.alloc (.cells #[.int .i64 n] 3)) := by
  go_simp
theorem op_build (hI : Is ops W) (hW : W.apart) (h : St W T df wB B x v0 L0 s p v L a w) (c : Fin 3) (hc : s c = 0) (hb : W.pb c < T.size) (hx : T[W.xv c]? = some (.int .i64 (x c))) {K : Act → World → Prop}
    (hK : ∀ p' a' w', St W T df wB B x v0 L0 (upd s c 1) p' v L a' w' → K a' w') : wpOp Try.prog ops Q (W.ob c) K a w := by
  obtain ⟨t, pos, after, ho⟩ := hI.ob c
  have he : a.eval (.tmp (W.xv c)) = .int .i64 (x c) := eval_tmp ((h.rest _ (fun d => ⟨(hW.2.2 c d).1, (hW.2.2 c d).2.1⟩)).trans hx)
  unfold wpOp
  rw [ho]
  simp only
  rw [if_pos (by rfl)]
  left
  have hrun := run_one a.eval _ _ he (some (W.pb c)) t pos after w
  unfold Oper.wp
  rw [hrun]
  exact hK _ _ _ (h.build hW c hc hb)
theorem op_append (hI : Is ops W) (hW : W.apart) (h : St W T df wB B x v0 L0 s p v L a w) (c : Fin 3) (hc : s c = 1) (hb : W.qa c < T.size) (hs : T[W.sv c]? = some (v0 c)) (hn : (L0 c).length ≤ 1000000) {K : Act → World → Prop}
    (hK : ∀ v' L' a' w', St W T df wB B x v0 L0 (upd s c 2) p v' L' a' w' → K a' w') : wpOp Try.prog ops Q (W.oa c) K a w := by
  obtain ⟨t, pos, after, ho⟩ := hI.oa c
  have hv := h.v0 c (by omega)
  have he : a.eval (.tmp (W.sv c)) = v c := by
    rw [hv.1]
    exact eval_tmp ((h.rest _ (fun d => ⟨(hW.2.2 c d).2.2.1, (hW.2.2 c d).2.2.2⟩)).trans hs)
  obtain ⟨g, hp, hcell, hne⟩ := h.row c hc
  have he2 : a.eval (.tmp (W.pb c)) = .slice (some ⟨g, 0, none⟩) 1 1 := by
    rw [← hp]
    exact eval_tmp (h.hp c (by omega))
  obtain ⟨i1, hi1, hy0, hy1, hy2⟩ := info_parts int_info6
  unfold wpOp
  rw [ho]
  simp only
  rw [if_pos (by rfl)]
  left
  refine wp_append_lies w _ _ 25 rfl B 3 i1 _ 1 8 Try.underlying25 hi1 hy0 hy1 hy2 rfl (by decide) (v c) (L c).length (ints (L c)) he (h.own c) ⟨g, 0, none⟩ 1 1 [.int .i64 (x c)] he2 rfl ?_ ?_ (by decide) (by rw [hv.2]; unfold maxLen; omega) (by rw [hv.2]; omega) h.base w.heap.size rfl ?_
  · intro j u hj
    have hj0 : j = 0 := by
      have := (List.getElem?_eq_some_iff.1 hj).1
      simp at this
      omega
    subst hj0
    obtain rfl := Option.some.inj hj
    rw [add_lit0]
    exact hcell
  · intro u hu
    rw [List.mem_singleton.1 hu]
    rfl
  · intro g' cap' w' h1 h2 h3 h4
    exact hK _ _ _ _ (h.append hW c hc hb h1 h2 h3)
theorem walk (hI : Is ops W) (hW : W.apart) (l0 : Array Bool) (hchk : chk W ops l0 = true) (hb : ∀ c, W.pb c < T.size ∧ W.qa c < T.size) (hT : ∀ c, T[W.xv c]? = some (.int .i64 (x c)) ∧ T[W.sv c]? = some (v0 c)) (hn : ∀ c, (L0 c).length ≤ 1000000)
    (hS : ∀ w, Below B wB w → S w) (fuel : Nat) (hend : ∀ p v L a w, St W T df wB B x v0 L0 (mk3 2 2 2) p v L a w → wpAnyH Try.prog .any ops Q S fuel (Li W l0 2 2 2) a w) :
    ∀ (m i j k : Nat), i ≤ 2 → j ≤ 2 → k ≤ 2 → i + j + k + m = 6 → (j = 2 → i = 2) → (k = 2 → j = 2) → ∀ p v L a w, St W T df wB B x v0 L0 (mk3 i j k) p v L a w → wpAnyH Try.prog .any ops Q S (fuel + m) (Li W l0 i j k) a w
  | 0, i, j, k, hi, hj, hk, hm, _, _, p, v, L, a, w, h => by
    obtain rfl : i = 2 := by omega
    obtain rfl : j = 2 := by omega
    obtain rfl : k = 2 := by omega
    exact hend p v L a w h
  | m + 1, i, j, k, hi, hj, hk, hm, u1, u2, p, v, L, a, w, h => by
    have ih := walk hI hW l0 hchk hb hT hn hS fuel hend m
    have hc1 : chk1 W ops l0 i j k = true := by
      have h3 : ∀ n, n ≤ 2 → n ∈ [0, 1, 2] := fun n hn => by
        rcases (by omega : n = 0 ∨ n = 1 ∨ n = 2) with rfl | rfl | rfl <;> simp
      unfold chk at hchk
      have := List.all_eq_true.1 hchk i (h3 i hi)
      have := List.all_eq_true.1 this j (h3 j hj)
      exact List.all_eq_true.1 this k (h3 k hk)
    unfold chk1 at hc1
    have hnot : ((i == 2 && j == 2 && k == 2) || (j == 2 && i != 2) || (k == 2 && j != 2)) = false := by
      rw [Bool.eq_false_iff]
      intro e
      simp at e
      omega
    rw [hnot, Bool.false_or] at hc1
    simp only [Bool.and_eq_true, Bool.or_eq_true, beq_iff_eq] at hc1
    obtain ⟨⟨⟨hr, g0⟩, g1⟩, g2⟩ := hc1
    refine wpAnyH_all (fuel := fuel + m) hr ?_ fun o ho => ?_
    · intro e
      unfold nexts nextOf at e
      have : i < 2 ∨ (i = 2 ∧ j < 2) ∨ (i = 2 ∧ j = 2 ∧ k < 2) := by omega
      rcases this with h2 | ⟨rfl, h2⟩ | ⟨rfl, rfl, h2⟩
      · rcases (by omega : i = 0 ∨ i = 1) with rfl | rfl <;> simp at e
      · rcases (by omega : j = 0 ∨ j = 1) with rfl | rfl <;> simp at e
      · rcases (by omega : k = 0 ∨ k = 1) with rfl | rfl <;> simp at e
    · unfold nexts at ho
      rw [List.mem_append, List.mem_append] at ho
      rcases ho with (ho | ho) | ho
      · rcases (by omega : i = 0 ∨ i = 1 ∨ i = 2) with rfl | rfl | rfl
        · obtain rfl : o = W.ob 0 := by simpa [nextOf] using ho
          have g := g0.resolve_left (by decide)
          rw [if_pos rfl] at g
          rw [g]
          refine op_build hI hW h 0 rfl (hb 0).1 (hT 0).1 fun p' a' w' h' => ?_
          rw [upd0] at h'
          exact ⟨hS _ h'.below, ih 1 j k (by omega) hj hk (by omega) (by omega) (by omega) _ _ _ _ _ h'⟩
        · obtain rfl : o = W.oa 0 := by simpa [nextOf] using ho
          have g := g0.resolve_left (by decide)
          rw [if_neg (by decide)] at g
          rw [g]
          refine op_append hI hW h 0 rfl (hb 0).2 (hT 0).2 (hn 0) fun v' L' a' w' h' => ?_
          rw [upd0] at h'
          exact ⟨hS _ h'.below, ih 2 j k (by omega) hj hk (by omega) (by omega) (by omega) _ _ _ _ _ h'⟩
        · simp [nextOf] at ho
      · rcases (by omega : j = 0 ∨ j = 1 ∨ j = 2) with rfl | rfl | rfl
        · obtain rfl : o = W.ob 1 := by simpa [nextOf] using ho
          have g := g1.resolve_left (by decide)
          rw [if_pos rfl] at g
          rw [g]
          refine op_build hI hW h 1 rfl (hb 1).1 (hT 1).1 fun p' a' w' h' => ?_
          rw [upd1] at h'
          exact ⟨hS _ h'.below, ih i 1 k hi (by omega) hk (by omega) (by omega) (by omega) _ _ _ _ _ h'⟩
        · obtain ⟨rfl, ho2⟩ : i = 2 ∧ o = W.oa 1 := by
            unfold nextOf at ho
            rw [if_neg (by decide)] at ho
            split at ho
            · rename_i h1; exact ⟨by simpa using h1.2, by simpa using ho⟩
            · simp at ho
          subst ho2
          have g := g1.resolve_left (by decide)
          rw [if_neg (by decide)] at g
          rw [g]
          refine op_append hI hW h 1 rfl (hb 1).2 (hT 1).2 (hn 1) fun v' L' a' w' h' => ?_
          rw [upd1] at h'
          exact ⟨hS _ h'.below, ih 2 2 k hi (by omega) hk (by omega) (by omega) (by omega) _ _ _ _ _ h'⟩
        · simp [nextOf] at ho
      · rcases (by omega : k = 0 ∨ k = 1 ∨ k = 2) with rfl | rfl | rfl
        · obtain rfl : o = W.ob 2 := by simpa [nextOf] using ho
          have g := g2.resolve_left (by decide)
          rw [if_pos rfl] at g
          rw [g]
          refine op_build hI hW h 2 rfl (hb 2).1 (hT 2).1 fun p' a' w' h' => ?_
          rw [upd2] at h'
          exact ⟨hS _ h'.below, ih i j 1 hi hj (by omega) (by omega) (by omega) (by omega) _ _ _ _ _ h'⟩
        · obtain ⟨rfl, ho2⟩ : j = 2 ∧ o = W.oa 2 := by
            unfold nextOf at ho
            rw [if_neg (by decide)] at ho
            split at ho
            · rename_i h1; exact ⟨by simpa using h1.2, by simpa using ho⟩
            · simp at ho
          subst ho2
          have g := g2.resolve_left (by decide)
          rw [if_neg (by decide)] at g
          rw [g]
          refine op_append hI hW h 2 rfl (hb 2).2 (hT 2).2 (hn 2) fun v' L' a' w' h' => ?_
          rw [upd2] at h'
          exact ⟨hS _ h'.below, ih i 2 2 hi hj (by omega) (by omega) (by omega) (by omega) _ _ _ _ _ h'⟩
        · simp [nextOf] at ho
end
end Go.Proofs.Ytlplomofgbmgaaa.Many

/- The beginning and the end of such a region. -/
namespace Go.Proofs.Ytlplomofgbmgaaa.Many
open Go.RowKit

def tri {α : Type} (a b c : α) : Fin 3 → α := fun i => if i = 0 then a else if i = 1 then b else c
theorem forall3 {p : Fin 3 → Prop} (h0 : p 0) (h1 : p 1) (h2 : p 2) : ∀ c, p c := fun c => by
  rcases (by omega : c = 0 ∨ c = 1 ∨ c = 2) with rfl | rfl | rfl
  · exact h0
  · exact h1
  · exact h2
theorem tri_0 {α : Type} (a b c : α) : tri a b c 0 = a := rfl
theorem tri_1 {α : Type} (a b c : α) : tri a b c 1 = b := rfl
theorem tri_2 {α : Type} (a b c : α) : tri a b c 2 = c := rfl
theorem tri_eta {α : Type} (v : Fin 3 → α) : tri (v 0) (v 1) (v 2) = v := funext (forall3 rfl rfl rfl)
theorem ends {ops : Array Oper} {S : World → Prop} {Q : Exit → Act → World → Prop} {a : Act} {w : World} (h : Q .normal a w) : goesE Try.prog ops S (fun a3 => NoPanic Q .normal a3 w) [] a := h
/-- the frame behind the three appends -/
def endT (W : Wires) (T : Array Value) (p v : Fin 3 → Value) : Array Value :=
  (((((T.setIfInBounds (W.pb 0) (p 0)).setIfInBounds (W.qa 0) (v 0)).setIfInBounds (W.pb 1) (p 1)).setIfInBounds (W.qa 1) (v 1)).setIfInBounds (W.pb 2) (p 2)).setIfInBounds (W.qa 2) (v 2)
theorem mk222 (c : Fin 3) : mk3 2 2 2 c = 2 := by
  unfold mk3
  split
  · rfl
  · split <;> rfl
section
variable {W : Wires} {T : Array Value} {df : Act} {wB : World} {B : Nat} {x : Fin 3 → Int} {v0 : Fin 3 → Value} {L0 : Fin 3 → List Int} {p v : Fin 3 → Value} {L : Fin 3 → List Int} {a : Act} {w : World}
theorem St.final (h : St W T df wB B x v0 L0 (mk3 2 2 2) p v L a w) (hb : ∀ c, W.pb c < T.size ∧ W.qa c < T.size) : a = ⟨endT W T p v, df.defers⟩ := by
  have hp := fun c => h.hp c (by rw [mk222]; decide)
  have hq := fun c => h.hq c (mk222 c)
  have ht : a.tmps = endT W T p v := by
    apply Array.ext_getElem?
    intro k
    unfold endT
    simp only [Array.getElem?_setIfInBounds, Array.size_setIfInBounds]
    by_cases e1 : W.qa 2 = k
    · rw [if_pos e1, if_pos (hb 2).2, ← e1]; exact hq 2
    rw [if_neg e1]
    by_cases e2 : W.pb 2 = k
    · rw [if_pos e2, if_pos (hb 2).1, ← e2]; exact hp 2
    rw [if_neg e2]
    by_cases e3 : W.qa 1 = k
    · rw [if_pos e3, if_pos (hb 1).2, ← e3]; exact hq 1
    rw [if_neg e3]
    by_cases e4 : W.pb 1 = k
    · rw [if_pos e4, if_pos (hb 1).1, ← e4]; exact hp 1
    rw [if_neg e4]
    by_cases e5 : W.qa 0 = k
    · rw [if_pos e5, if_pos (hb 0).2, ← e5]; exact hq 0
    rw [if_neg e5]
    by_cases e6 : W.pb 0 = k
    · rw [if_pos e6, if_pos (hb 0).1, ← e6]; exact hp 0
    rw [if_neg e6]
    exact h.rest k (forall3 ⟨fun e => e6 e.symm, fun e => e5 e.symm⟩ ⟨fun e => e4 e.symm, fun e => e3 e.symm⟩ ⟨fun e => e2 e.symm, fun e => e1 e.symm⟩)
  obtain ⟨tm, de⟩ := a
  have hd := h.defers
  simp only at ht hd
  rw [ht, hd]
end
/-- what stands between the operations that are taken first and those at the end -/
def Mid (W : Wires) (ops : Array Oper) (ks2 : List Nat) (S : World → Prop) (Q : Exit → Act → World → Prop) (w0 : World) (a1 : Act) : Prop :=
  ∃ (wB : World) (B : Nat) (x : Fin 3 → Int) (v0 : Fin 3 → Value) (L0 : Fin 3 → List Int), Below B wB w0 ∧ B ≤ w0.heap.size ∧ (∀ c, w0.ownsRow B 3 1 (v0 c) (L0 c).length (ints (L0 c))) ∧
    (∀ c d, c ≠ d → ∀ g, (v0 c).ownBlock = some g → (v0 d).ownBlock ≠ some g) ∧ (∀ c, W.pb c < a1.tmps.size ∧ W.qa c < a1.tmps.size) ∧ (∀ c, a1.tmps[W.xv c]? = some (.int .i64 (x c)) ∧ a1.tmps[W.sv c]? = some (v0 c)) ∧
    (∀ c, (L0 c).length ≤ 1000000) ∧ (∀ w, Below B wB w → S w) ∧
    ∀ (p v : Fin 3 → Value) (w2 : World), (∀ c, w2.ownsRow B 3 1 (v c) (L0 c ++ [x c]).length (ints (L0 c ++ [x c]))) → (∀ c d, c ≠ d → ∀ g, (v c).ownBlock = some g → (v d).ownBlock ≠ some g) → Below B wB w2 → B ≤ w2.heap.size →
      goesE Try.prog ops S (fun a3 => NoPanic Q .normal a3 w2) (ks2.map fun k => ops[k]?) ⟨endT W a1.tmps p v, a1.defers⟩
theorem start3 {ops : Array Oper} {Q : Exit → Act → World → Prop} {id : Nat} {a : Act} {w : World} (S : World → Prop) (ks ks2 : List Nat) (W : Wires) (hm : Try.prog.follows .mixedOrders = true) (hs : Region.noSelect ops = true) (hsz : ops.size = ks2.length + 6 + ks.length)
    (hg : goodE ops ks (Array.replicate ops.size false) = true) (hchk : chk W ops (listE ks (Array.replicate ops.size false)) = true) (hg2 : goodE ops ks2 (Li W (listE ks (Array.replicate ops.size false)) 2 2 2) = true)
    (hr : Region.ready .any ops (listE ks2 (Li W (listE ks (Array.replicate ops.size false)) 2 2 2)) = []) (hI : Is ops W) (hW : W.apart) (hS : S w.drew)
    (h : goesE Try.prog ops S (Mid W ops ks2 S Q w.drew) (ks.map fun k => ops[k]?) a) : (Code.region id ops true).wp Try.prog Q a w := by
  have hQ : ∀ c a d v w, NoPanic Q (.panic c) (Act.put a d v) w → NoPanic Q (.panic c) a w := fun _ _ _ _ _ h => h
  refine wp_region_noPanic (wp_region_held (S := S) hm ?_)
  have key := held_of_takes (P := Try.prog) (Q := NoPanic Q) (S := S) hs hQ (ks2.length + 6) (Mid W ops ks2 S Q w.drew) w.drew hS ks (Array.replicate ops.size false) a hg ?_ h
  · rw [← hsz] at key
    exact key
  · rintro a1 ⟨wB, B, x, v0, L0, hB, hbase, hown, hfar, hb, hT, hn, hSB, hend⟩
    have h0 : St W a1.tmps a1 wB B x v0 L0 (mk3 0 0 0) (fun _ => undef) v0 L0 a1 w.drew := by
      have hz : ∀ c, mk3 0 0 0 c = 0 := fun c => by unfold mk3; split; (· rfl); (· split <;> rfl)
      exact ⟨rfl, rfl, fun c hc => by rw [hz] at hc; omega, fun c hc => by rw [hz] at hc; omega, fun _ _ => rfl, fun _ _ => ⟨rfl, rfl⟩, fun c hc => by rw [hz] at hc; omega, hown, hfar, fun c hc => by rw [hz] at hc; omega, hB, hbase⟩
    have hw := walk (Q := NoPanic Q) (S := S) hI hW _ hchk hb hT hn hSB ks2.length ?_ 6 0 0 0 (by omega) (by omega) (by omega) (by omega) (by omega) (by omega) _ _ _ a1 w.drew h0
    · exact hw
    · intro p v L a2 w2 h2
      have hL : ∀ c, L c = L0 c ++ [x c] := fun c => h2.L2 c (mk222 c)
      have hg3 := hend p v w2 (fun c => by rw [← hL]; exact h2.own c) h2.far h2.below h2.base
      rw [← h2.final hb] at hg3
      have := held_of_takes (P := Try.prog) (Q := NoPanic Q) (S := S) hs hQ 0 (fun a3 => NoPanic Q .normal a3 w2) w2 (hSB w2 h2.below) ks2 _ a2 hg2 (fun a3 h3 => wpAnyH_done hr h3 0) hg3
      rw [Nat.zero_add] at this
      exact this
end Go.Proofs.Ytlplomofgbmgaaa.Many

/- The walk of the law that a failure that keeps more loses no more. -/
namespace Go.Proofs.Ytlplomofgbmgaaa
open Go.RowKit Plan ZnsMath MedMath

theorem more_at {k : IntKind} {w : World} {a : Option Addr} {len cap : Nat} {zs : List Int} (h : IsRow k w a len cap zs) {i : Nat} (hi : i < len) : ∃ y, a = some y ∧ w.cell? (y.add i) = some (.int k (zs.getD i 0)) ∧ (Lit.int k (zs.getD i 0)).wf = true := by
  rcases h with ⟨_, rfl, _⟩ | ⟨x, h1, h2, h3, h4, h5, h6⟩
  · omega
  · refine ⟨x, h1, h5 i (by omega), h6 _ ?_⟩
    rw [List.getD_eq_getElem?_getD, List.getElem?_eq_getElem (by omega)]
    exact List.getElem_mem _
/-- three lists of numbers that the call owns -/
structure Tri (w : World) (B : Nat) (v : Fin 3 → Value) (L : Fin 3 → List Int) : Prop where
  own : ∀ c, w.ownsRow B 3 1 (v c) (L c).length (Many.ints (L c))
  far : ∀ c d, c ≠ d → ∀ g, (v c).ownBlock = some g → (v d).ownBlock ≠ some g
theorem Tri.nil (w : World) (B : Nat) : Tri w B (Many.tri (.slice none 0 0) (.slice none 0 0) (.slice none 0 0)) (Many.tri [] [] []) := by
  have h : ∀ c, Many.tri (Value.slice none 0 0) (Value.slice none 0 0) (Value.slice none 0 0) c = .slice none 0 0 := Many.forall3 rfl rfl rfl
  have h2 : ∀ c, Many.tri ([] : List Int) [] [] c = [] := Many.forall3 rfl rfl rfl
  refine ⟨fun c => ?_, fun c d _ g hg => ?_⟩
  · rw [h, h2]; exact World.ownsRow_nil w _ _ _
  · rw [h] at hg; cases hg
theorem Tri.of {w : World} {B : Nat} {v : Fin 3 → Value} {L1 L2 L3 : List Int} {a b c : Int} (h1 : ∀ i, w.ownsRow B 3 1 (v i) (Many.tri L1 L2 L3 i ++ [Many.tri a b c i]).length (Many.ints (Many.tri L1 L2 L3 i ++ [Many.tri a b c i])))
    (h2 : ∀ i d, i ≠ d → ∀ g, (v i).ownBlock = some g → (v d).ownBlock ≠ some g) : Tri w B (Many.tri (v 0) (v 1) (v 2)) (Many.tri (L1 ++ [a]) (L2 ++ [b]) (L3 ++ [c])) := by
  rw [Many.tri_eta]
  exact ⟨Many.forall3 (h1 0) (h1 1) (h1 2), h2⟩
theorem Tri.keep {w : World} {B : Nat} {v : Fin 3 → Value} {L : Fin 3 → List Int} (h : Tri w B v L) (c : Fin 3) : ∃ ka kc, v c = .slice ka (L c).length kc ∧ KeepAt w ka (L c).length (L c) := by
  have ho := h.own c
  rcases ho.2 with ⟨hv, h0⟩ | ⟨g, cap, cur, hv, hb, hg, h1, h2, h3, h4⟩
  · rw [hv]
    refine ⟨none, 0, by rw [h0], rfl, fun i hi => by omega⟩
  · refine ⟨_, _, hv, rfl, fun i hi => ⟨_, rfl, ?_⟩⟩
    rw [hv] at ho
    have := ho.cells (g := g) rfl i (.int .i64 ((L c).getD i 0)) (by unfold Many.ints; rw [List.getElem?_map, List.getD_eq_getElem?_getD, List.getElem?_eq_getElem hi]; rfl)
    exact this
theorem getD_snoc (L : List Int) (x : Int) (i : Nat) : (L ++ [x]).getD i 0 = if i < L.length then L.getD i 0 else if i = L.length then x else 0 := by
  rw [List.getD_eq_getElem?_getD, List.getD_eq_getElem?_getD]
  by_cases h : i < L.length
  · rw [if_pos h, List.getElem?_append_left h]
  · rw [if_neg h]
    by_cases h2 : i = L.length
    · subst h2; rw [if_pos rfl]; simp
    · rw [if_neg h2, List.getElem?_eq_none (by simp; omega)]; rfl
def wires : Many.Wires := ⟨Many.tri 2 8 13, Many.tri 3 9 14, Many.tri 68 74 79, Many.tri 69 75 80, Many.tri 67 73 78, Many.tri 66 70 76⟩
theorem wires_apart : wires.apart := by unfold Many.Wires.apart; decide
/-- the lists so far: the second nowhere less than the first, the third the size everywhere -/
structure Lists (size : Int) (j : Nat) (L1 L2 L3 : List Int) : Prop where
  l1 : L1.length = j
  l2 : L2.length = j
  l3 : L3.length = j
  le : ∀ i, L1.getD i 0 ≤ L2.getD i 0
  all : ∀ i, i < j → L3.getD i 0 = size
theorem Lists.next {size : Int} {j : Nat} {L1 L2 L3 : List Int} (h : Lists size j L1 L2 L3) {a b : Int} (hab : a ≤ b) : Lists size (j + 1) (L1 ++ [a]) (L2 ++ [b]) (L3 ++ [size]) := by
  refine ⟨by simp [h.l1], by simp [h.l2], by simp [h.l3], fun i => ?_, fun i hi => ?_⟩
  · rw [getD_snoc, getD_snoc, h.l1, h.l2]
    split
    · exact h.le i
    · split
      · exact hab
      · exact Int.le_refl 0
  · rw [getD_snoc, h.l3]
    split
    · rename_i h2; exact h.all i h2
    · rw [if_pos (by omega)]
set_option maxHeartbeats 8000000 in
set_option maxRecDepth 20000 in
theorem mediaMore_go (a0 : Option Addr) (l0 c0 : Nat) (zs : List Int) (ka : Option Addr) (kl kc : Nat) (ks : List Int) (ma : Option Addr) (ml mc : Nat) (ms : List Int) (w : World) (h0 : IsRow .i64 w a0 l0 c0 zs) (hk : IsRow .i64 w ka kl kc ks) (hm : IsRow .u8 w ma ml mc ms) (hl0 : l0 ≤ 300) (hkl : kl ≤ 20) (hml : ml ≤ 20) :
    Calls Try.prog 6 #[.slice a0 l0 c0, .slice ka kl kc, .slice ma ml mc] w fun e w' => e = .returned (.bool true) ∧ Below w.heap.size w w' := by
  have hlg := light_any a0 l0 c0 w
  have hdv := device_any a0 l0 c0 zs w h0 hl0
  have hkr := fun W (h : Below w.heap.size w W) (j : Nat) (hj : j < kl) => more_at (row_keep hk h) hj
  have hmr := fun W (h : Below w.heap.size w W) (j : Nat) (hj : j < ml) => more_at (row_keep hm h) hj
  unfold DevMade at hdv
  have e1 : decide ((l0 : Int) ≤ 300) = true := decide_eq_true (by omega)
  rw [e1] at hlg
  have hkI : ¬ (20 : Int) < (kl : Int) := by omega
  have hmI : ¬ (20 : Int) < (ml : Int) := by omega
  have HL := Lib.hid hlg
  have HD := Lib.hid hdv
  have HK := Lib.hid hkr
  have HM := Lib.hid hmr
  clear hlg hdv h0 e1 hk hkr hm hmr hl0
  go_enter Try.func6, Try.ntmps6
  go_wp2_with (first
    | (go_at_call 9; ((with_reducible refine (HL.out).mono ?_); rintro e w0 ⟨rfl, rfl⟩))
    | (go_at_call 10; ((with_reducible refine (HD.out).mono ?_); rintro e w1 ⟨⟨ds, do', da, DZ⟩, a1, n, c1, rfl, hz1, hck, hn2, hn5, hb1⟩; have BX := Box.made (ds := ds) (op := do') (da := da) hz1.is; have b1 := hb1.alloc hb1.size (devRow ds do' da a1 n c1); obtain ⟨y1, d0, d1, d2, d3⟩ := row4 BX.row)))
  have hlD : DZ.length = n := BX.zones.length
  generalize hX : w1.heap.size = X at *
  generalize w1.alloc (devRow ds do' da a1 n c1) = wB at *
  clear hz1 hb1 d0 d1 d2 d3 y1
  have HCK := Lib.hid hck
  clear hck
  go_loopw [8, 9, 10, 11] (fun u1 u2 u3 c wr => ∃ (j : Nat) (L1 L2 L3 : List Int), c = .int .i64 j ∧ j ≤ n ∧ Lists ds j L1 L2 L3 ∧ Tri wr wB.heap.size (Many.tri u1 u2 u3) (Many.tri L1 L2 L3) ∧ Below wB.heap.size wB wr) (fun _ _ _ c _ => n - (intOf c).toNat)
  case atStart => exact ⟨0, [], [], [], rfl, by omega, ⟨rfl, rfl, rfl, fun _ => Int.le_refl _, fun i hi => absurd hi (Nat.not_lt_zero _)⟩, Tri.nil _ _, Below.refl _ _⟩
  case round =>
    obtain ⟨j, L1, L2, L3, rfl, hj, hLs, hT, hB⟩ := hrel
    have BXr := BX.on hB
    have bw := b1.trans (hB.mono b1.size)
    obtain ⟨v0, d0, d1, d2, d3⟩ := row4 BXr.row
    by_cases hlt : j < n
    · have hjI : (j : Int) < (n : Int) := by omega
      obtain ⟨A, Bv, hA, hBv⟩ : ∃ A Bv : Int, ((j < kl ∧ A = ks.getD j 0 % 9) ∨ (¬ j < kl ∧ A = 0)) ∧ ((j < ml ∧ Bv = ms.getD j 0) ∨ (¬ j < ml ∧ Bv = 0)) := by
        by_cases h1 : j < kl
        · by_cases h2 : j < ml
          · exact ⟨_, _, .inl ⟨h1, rfl⟩, .inl ⟨h2, rfl⟩⟩
          · exact ⟨_, _, .inl ⟨h1, rfl⟩, .inr ⟨h2, rfl⟩⟩
        · by_cases h2 : j < ml
          · exact ⟨_, _, .inr ⟨h1, rfl⟩, .inl ⟨h2, rfl⟩⟩
          · exact ⟨_, _, .inr ⟨h1, rfl⟩, .inr ⟨h2, rfl⟩⟩
      have hA9 : 0 ≤ A ∧ A < 9 := by
        rcases hA with ⟨_, rfl⟩ | ⟨_, rfl⟩
        · exact ⟨Int.emod_nonneg _ (by decide), Int.emod_lt_of_pos _ (by decide)⟩
        · exact ⟨by decide, by decide⟩
      have hB0 : 0 ≤ Bv ∧ Bv < 256 := by
        rcases hBv with ⟨h2, rfl⟩ | ⟨_, rfl⟩
        · obtain ⟨y, -, -, hwf⟩ := HM.out wr bw j h2
          have q1 : IntKind.u8.min = 0 := rfl
          have q2 : IntKind.u8.max = 255 := rfl
          simp only [Lit.wf, decide_eq_true_eq, Bool.and_eq_true] at hwf
          omega
        · exact ⟨by decide, by decide⟩
      have hwb : IntKind.i64.wrap Bv = Bv := by rw [IntKind.wrap_i64]; omega
      have hwa : IntKind.i64.wrap A = A := by rw [IntKind.wrap_i64]; omega
      have hwab : IntKind.i64.wrap (A + Bv) = A + Bv := by rw [IntKind.wrap_i64]; omega
      have hkc : j < kl → ∃ y, ka = some y ∧ wr.cell? (y.add j) = some (.int .i64 (ks.getD j 0)) := fun h => by
        obtain ⟨y, e1, e2, -⟩ := HK.out wr bw j h
        exact ⟨y, e1, e2⟩
      have hmc : j < ml → ∃ y, ma = some y ∧ wr.cell? (y.add j) = some (.int .u8 (ms.getD j 0)) := fun h => by
        obtain ⟨y, e1, e2, -⟩ := HM.out wr bw j h
        exact ⟨y, e1, e2⟩
      have hmod := fun W => mod_any (ks.getD j 0) 9 (by decide) (by decide) W
      have HMOD := Lib.hid hmod
      clear hmod
      rcases hA with ⟨hjk, hAe⟩ | ⟨hjk, rfl⟩
      · obtain ⟨y, rfl, hky⟩ := hkc hjk
        have hjkI : (j : Int) < (kl : Int) := by omega
        generalize ks.getD j 0 = kq at hky HMOD hAe
        rw [← hAe] at HMOD
        clear hAe
        rcases hBv with ⟨hjm, rfl⟩ | ⟨hjm, rfl⟩
        · obtain ⟨y2, rfl, hmy⟩ := hmc hjm
          have hjmI : (j : Int) < (ml : Int) := by omega
          clear hkc hmc
          generalize ms.getD j 0 = Bv at *
          go_wp2_with (first
            | (go_at_call 16; ((with_reducible refine (HMOD.out _).mono ?_); rintro e w3 ⟨rfl, rfl⟩)))
          refine Many.start3 (fun W => W.cell? ⟨X, 0, none⟩ = some (.int .i64 ds)) [0, 1, 4, 5, 6, 7, 10, 11, 12] [15, 16, 17] wires (by kernel_rfl) (by kernel_rfl) (by kernel_rfl) (by kernel_rfl) (by kernel_rfl) (by kernel_rfl) (by kernel_rfl) ⟨Many.forall3 ⟨_, _, _, rfl⟩ ⟨_, _, _, rfl⟩ ⟨_, _, _, rfl⟩, Many.forall3 ⟨_, _, _, rfl⟩ ⟨_, _, _, rfl⟩ ⟨_, _, _, rfl⟩⟩ wires_apart d0 ?_
          simp only [List.map_cons, List.map_nil, List.getElem?_toArray, List.getElem?_cons_zero, List.getElem?_cons_succ]
          repeat (first | (refine Many.take ?_ (by rfl) ?_ ?_; rotate_left; (· rintro w9 u0; go_simp; (try rw [if_neg (by omega)]); all_goals (with_reducible rfl)); simp only [Act.put, List.setIfInBounds_toArray, List.set_cons_zero, List.set_cons_succ]))
          change Many.Mid wires _ _ _ _ _ _
          unfold Many.Mid
          refine ⟨wB, wB.heap.size, Many.tri _ _ ds, Many.tri u8 u9 u10, Many.tri L1 L2 L3, hB.drew, hB.size, hT.own, hT.far, Many.forall3 ⟨show 68 < 199 by decide, show 69 < 199 by decide⟩ ⟨show 74 < 199 by decide, show 75 < 199 by decide⟩ ⟨show 79 < 199 by decide, show 80 < 199 by decide⟩, Many.forall3 ⟨rfl, rfl⟩ ⟨rfl, rfl⟩ ⟨rfl, rfl⟩, Many.forall3 (show L1.length ≤ 1000000 by rw [hLs.l1]; omega) (show L2.length ≤ 1000000 by rw [hLs.l2]; omega) (show L3.length ≤ 1000000 by rw [hLs.l3]; omega), fun W h => (row4 (BX.on h).row).2.1, fun p v w2 hown hfar hbel hbase => ?_⟩
          have hT2 := Tri.of hown hfar
          simp only [Many.endT, wires, Many.tri_0, Many.tri_1, Many.tri_2, List.map_cons, List.map_nil, List.getElem?_toArray, List.getElem?_cons_zero, List.getElem?_cons_succ, List.setIfInBounds_toArray, List.set_cons_zero, List.set_cons_succ]
          repeat (first | (refine Many.take ?_ (by rfl) ?_ ?_; rotate_left; (· rintro w9 u0; go_simp; (try rw [if_neg (by omega)]); all_goals (with_reducible rfl)); simp only [Act.put, List.setIfInBounds_toArray, List.set_cons_zero, List.set_cons_succ]))
          refine Many.ends ?_
          clear hT BXr bw d0 d1 d2 d3 hown hfar
          go_wp2_with fail
          go_roundw
          case rel => exact ⟨j + 1, _, _, _, by go_num, by omega, hLs.next (by omega), hT2, hbel⟩
          case measure => simp [intOf]; omega
        · have hjmI : ¬ (j : Int) < (ml : Int) := by omega
          clear hkc hmc
          go_wp2_with (first
            | (go_at_call 16; ((with_reducible refine (HMOD.out _).mono ?_); rintro e w3 ⟨rfl, rfl⟩)))
          refine Many.start3 (fun W => W.cell? ⟨X, 0, none⟩ = some (.int .i64 ds)) [0, 1, 4, 5, 6, 7, 10, 11, 12] [15, 16, 17] wires (by kernel_rfl) (by kernel_rfl) (by kernel_rfl) (by kernel_rfl) (by kernel_rfl) (by kernel_rfl) (by kernel_rfl) ⟨Many.forall3 ⟨_, _, _, rfl⟩ ⟨_, _, _, rfl⟩ ⟨_, _, _, rfl⟩, Many.forall3 ⟨_, _, _, rfl⟩ ⟨_, _, _, rfl⟩ ⟨_, _, _, rfl⟩⟩ wires_apart d0 ?_
          simp only [List.map_cons, List.map_nil, List.getElem?_toArray, List.getElem?_cons_zero, List.getElem?_cons_succ]
          repeat (first | (refine Many.take ?_ (by rfl) ?_ ?_; rotate_left; (· rintro w9 u0; go_simp; (try rw [if_neg (by omega)]); all_goals (with_reducible rfl)); simp only [Act.put, List.setIfInBounds_toArray, List.set_cons_zero, List.set_cons_succ]))
          change Many.Mid wires _ _ _ _ _ _
          unfold Many.Mid
          refine ⟨wB, wB.heap.size, Many.tri _ _ ds, Many.tri u8 u9 u10, Many.tri L1 L2 L3, hB.drew, hB.size, hT.own, hT.far, Many.forall3 ⟨show 68 < 199 by decide, show 69 < 199 by decide⟩ ⟨show 74 < 199 by decide, show 75 < 199 by decide⟩ ⟨show 79 < 199 by decide, show 80 < 199 by decide⟩, Many.forall3 ⟨rfl, rfl⟩ ⟨rfl, rfl⟩ ⟨rfl, rfl⟩, Many.forall3 (show L1.length ≤ 1000000 by rw [hLs.l1]; omega) (show L2.length ≤ 1000000 by rw [hLs.l2]; omega) (show L3.length ≤ 1000000 by rw [hLs.l3]; omega), fun W h => (row4 (BX.on h).row).2.1, fun p v w2 hown hfar hbel hbase => ?_⟩
          have hT2 := Tri.of hown hfar
          simp only [Many.endT, wires, Many.tri_0, Many.tri_1, Many.tri_2, List.map_cons, List.map_nil, List.getElem?_toArray, List.getElem?_cons_zero, List.getElem?_cons_succ, List.setIfInBounds_toArray, List.set_cons_zero, List.set_cons_succ]
          repeat (first | (refine Many.take ?_ (by rfl) ?_ ?_; rotate_left; (· rintro w9 u0; go_simp; (try rw [if_neg (by omega)]); all_goals (with_reducible rfl)); simp only [Act.put, List.setIfInBounds_toArray, List.set_cons_zero, List.set_cons_succ]))
          refine Many.ends ?_
          clear hT BXr bw d0 d1 d2 d3 hown hfar
          go_wp2_with fail
          go_roundw
          case rel => exact ⟨j + 1, _, _, _, by go_num, by omega, hLs.next (by omega), hT2, hbel⟩
          case measure => simp [intOf]; omega
      · have hjkI : ¬ (j : Int) < (kl : Int) := by omega
        rcases hBv with ⟨hjm, rfl⟩ | ⟨hjm, rfl⟩
        · obtain ⟨y2, rfl, hmy⟩ := hmc hjm
          have hjmI : (j : Int) < (ml : Int) := by omega
          clear hkc hmc
          generalize ms.getD j 0 = Bv at *
          go_wp2_with (first
            | (go_at_call 16; ((with_reducible refine (HMOD.out _).mono ?_); rintro e w3 ⟨rfl, rfl⟩)))
          refine Many.start3 (fun W => W.cell? ⟨X, 0, none⟩ = some (.int .i64 ds)) [0, 1, 4, 5, 6, 7, 10, 11, 12] [15, 16, 17] wires (by kernel_rfl) (by kernel_rfl) (by kernel_rfl) (by kernel_rfl) (by kernel_rfl) (by kernel_rfl) (by kernel_rfl) ⟨Many.forall3 ⟨_, _, _, rfl⟩ ⟨_, _, _, rfl⟩ ⟨_, _, _, rfl⟩, Many.forall3 ⟨_, _, _, rfl⟩ ⟨_, _, _, rfl⟩ ⟨_, _, _, rfl⟩⟩ wires_apart d0 ?_
          simp only [List.map_cons, List.map_nil, List.getElem?_toArray, List.getElem?_cons_zero, List.getElem?_cons_succ]
          repeat (first | (refine Many.take ?_ (by rfl) ?_ ?_; rotate_left; (· rintro w9 u0; go_simp; (try rw [if_neg (by omega)]); all_goals (with_reducible rfl)); simp only [Act.put, List.setIfInBounds_toArray, List.set_cons_zero, List.set_cons_succ]))
          change Many.Mid wires _ _ _ _ _ _
          unfold Many.Mid
          refine ⟨wB, wB.heap.size, Many.tri _ _ ds, Many.tri u8 u9 u10, Many.tri L1 L2 L3, hB.drew, hB.size, hT.own, hT.far, Many.forall3 ⟨show 68 < 199 by decide, show 69 < 199 by decide⟩ ⟨show 74 < 199 by decide, show 75 < 199 by decide⟩ ⟨show 79 < 199 by decide, show 80 < 199 by decide⟩, Many.forall3 ⟨rfl, rfl⟩ ⟨rfl, rfl⟩ ⟨rfl, rfl⟩, Many.forall3 (show L1.length ≤ 1000000 by rw [hLs.l1]; omega) (show L2.length ≤ 1000000 by rw [hLs.l2]; omega) (show L3.length ≤ 1000000 by rw [hLs.l3]; omega), fun W h => (row4 (BX.on h).row).2.1, fun p v w2 hown hfar hbel hbase => ?_⟩
          have hT2 := Tri.of hown hfar
          simp only [Many.endT, wires, Many.tri_0, Many.tri_1, Many.tri_2, List.map_cons, List.map_nil, List.getElem?_toArray, List.getElem?_cons_zero, List.getElem?_cons_succ, List.setIfInBounds_toArray, List.set_cons_zero, List.set_cons_succ]
          repeat (first | (refine Many.take ?_ (by rfl) ?_ ?_; rotate_left; (· rintro w9 u0; go_simp; (try rw [if_neg (by omega)]); all_goals (with_reducible rfl)); simp only [Act.put, List.setIfInBounds_toArray, List.set_cons_zero, List.set_cons_succ]))
          refine Many.ends ?_
          clear hT BXr bw d0 d1 d2 d3 hown hfar
          go_wp2_with fail
          go_roundw
          case rel => exact ⟨j + 1, _, _, _, by go_num, by omega, hLs.next (by omega), hT2, hbel⟩
          case measure => simp [intOf]; omega
        · have hjmI : ¬ (j : Int) < (ml : Int) := by omega
          clear hkc hmc
          go_wp2_with (first
            | (go_at_call 16; ((with_reducible refine (HMOD.out _).mono ?_); rintro e w3 ⟨rfl, rfl⟩)))
          refine Many.start3 (fun W => W.cell? ⟨X, 0, none⟩ = some (.int .i64 ds)) [0, 1, 4, 5, 6, 7, 10, 11, 12] [15, 16, 17] wires (by kernel_rfl) (by kernel_rfl) (by kernel_rfl) (by kernel_rfl) (by kernel_rfl) (by kernel_rfl) (by kernel_rfl) ⟨Many.forall3 ⟨_, _, _, rfl⟩ ⟨_, _, _, rfl⟩ ⟨_, _, _, rfl⟩, Many.forall3 ⟨_, _, _, rfl⟩ ⟨_, _, _, rfl⟩ ⟨_, _, _, rfl⟩⟩ wires_apart d0 ?_
          simp only [List.map_cons, List.map_nil, List.getElem?_toArray, List.getElem?_cons_zero, List.getElem?_cons_succ]
          repeat (first | (refine Many.take ?_ (by rfl) ?_ ?_; rotate_left; (· rintro w9 u0; go_simp; (try rw [if_neg (by omega)]); all_goals (with_reducible rfl)); simp only [Act.put, List.setIfInBounds_toArray, List.set_cons_zero, List.set_cons_succ]))
          change Many.Mid wires _ _ _ _ _ _
          unfold Many.Mid
          refine ⟨wB, wB.heap.size, Many.tri _ _ ds, Many.tri u8 u9 u10, Many.tri L1 L2 L3, hB.drew, hB.size, hT.own, hT.far, Many.forall3 ⟨show 68 < 199 by decide, show 69 < 199 by decide⟩ ⟨show 74 < 199 by decide, show 75 < 199 by decide⟩ ⟨show 79 < 199 by decide, show 80 < 199 by decide⟩, Many.forall3 ⟨rfl, rfl⟩ ⟨rfl, rfl⟩ ⟨rfl, rfl⟩, Many.forall3 (show L1.length ≤ 1000000 by rw [hLs.l1]; omega) (show L2.length ≤ 1000000 by rw [hLs.l2]; omega) (show L3.length ≤ 1000000 by rw [hLs.l3]; omega), fun W h => (row4 (BX.on h).row).2.1, fun p v w2 hown hfar hbel hbase => ?_⟩
          have hT2 := Tri.of hown hfar
          simp only [Many.endT, wires, Many.tri_0, Many.tri_1, Many.tri_2, List.map_cons, List.map_nil, List.getElem?_toArray, List.getElem?_cons_zero, List.getElem?_cons_succ, List.setIfInBounds_toArray, List.set_cons_zero, List.set_cons_succ]
          repeat (first | (refine Many.take ?_ (by rfl) ?_ ?_; rotate_left; (· rintro w9 u0; go_simp; (try rw [if_neg (by omega)]); all_goals (with_reducible rfl)); simp only [Act.put, List.setIfInBounds_toArray, List.set_cons_zero, List.set_cons_succ]))
          refine Many.ends ?_
          clear hT BXr bw d0 d1 d2 d3 hown hfar
          go_wp2_with fail
          go_roundw
          case rel => exact ⟨j + 1, _, _, _, by go_num, by omega, hLs.next (by omega), hT2, hbel⟩
          case measure => simp [intOf]; omega
    · obtain rfl : j = n := by omega
      clear d0 d1 d2 d3
      obtain ⟨k1a, k1c, e1, K1⟩ := hT.keep 0
      obtain ⟨k2a, k2c, e2, K2⟩ := hT.keep 1
      obtain ⟨k3a, k3c, e3, K3⟩ := hT.keep 2
      rw [Many.tri_0, Many.tri_0] at e1
      rw [Many.tri_1, Many.tri_1] at e2
      rw [Many.tri_2, Many.tri_2] at e3
      rw [Many.tri_0] at K1
      rw [Many.tri_1] at K2
      rw [Many.tri_2] at K3
      rw [hLs.l1] at e1 K1
      rw [hLs.l2] at e2 K2
      rw [hLs.l3] at e3 K3
      subst e1 e2 e3
      have hck := HCK.out
      have hckS : checkE ⟨ds, do', da, (durD ⟨ds, do', da, DZ⟩).zones⟩ = 0 := dur_valid hck
      have hTT : (durD ⟨ds, do', da, (durD ⟨ds, do', da, DZ⟩).zones⟩).zones = (durD ⟨ds, do', da, DZ⟩).zones := dur_twice ⟨ds, do', da, DZ⟩
      have hrel := fun (i : Nat) (z : Zone) (hz : DZ[i]? = some z) => more_rel hck L1 L2 L3 hLs.le (fun i hi => hLs.all i (by omega)) i z hz
      obtain ⟨XZ, hXZ⟩ : ∃ XZ, (crashD ⟨ds, do', da, DZ⟩ L1).zones = XZ := ⟨_, rfl⟩
      obtain ⟨YZ, hYZ⟩ : ∃ YZ, (crashD ⟨ds, do', da, DZ⟩ L2).zones = YZ := ⟨_, rfl⟩
      obtain ⟨ZZ, hZZ⟩ : ∃ ZZ, (crashD ⟨ds, do', da, DZ⟩ L3).zones = ZZ := ⟨_, rfl⟩
      obtain ⟨SZ, hSZ⟩ : ∃ SZ, (durD ⟨ds, do', da, DZ⟩).zones = SZ := ⟨_, rfl⟩
      rw [hXZ, hYZ, hZZ] at hrel
      rw [hSZ] at hckS hTT
      have HREL := Lib.hid hrel
      clear hrel
      have B1_1 := BXr
      have be1 := Below.refl wr.heap.size wr
      obtain ⟨v9, d0, d1, d2, d3⟩ := row4 B1_1.row
      go_wp2_with (first
        | (go_at_call 12; ((with_reducible refine (crashAt_is hck a1 _ c1 L1 _ _ _ _ B1_1.zones K1 hXZ).mono ?_); rintro e w2 ⟨a2, c2, rfl, zn2, hb2⟩; have B1_2 := (B1_1.on hb2).al (devRow ds do' da a2 j c2); have B2_2 := Box.made (ds := ds) (op := do') (da := da) zn2; have be2 := (be1.trans (hb2.mono be1.size)).alloc (Nat.le_trans be1.size hb2.size) (devRow ds do' da a2 j c2); clear zn2 d0 d1 d2 d3; obtain ⟨y2, d0, d1, d2, d3⟩ := row4 B1_2.row))
        | (go_at_call 12; ((with_reducible refine (crashAt_is hck a1 _ c1 L2 _ _ _ _ B1_2.zones (K2.on be2) hYZ).mono ?_); rintro e w3 ⟨a3, c3, rfl, zn3, hb3⟩; have B1_3 := (B1_2.on hb3).al (devRow ds do' da a3 j c3); have B2_3 := (B2_2.on hb3).al (devRow ds do' da a3 j c3); have B3_3 := Box.made (ds := ds) (op := do') (da := da) zn3; have be3 := (be2.trans (hb3.mono be2.size)).alloc (Nat.le_trans be2.size hb3.size) (devRow ds do' da a3 j c3); clear zn3 d0 d1 d2 d3; obtain ⟨y3, d0, d1, d2, d3⟩ := row4 B1_3.row))
        | (go_at_call 12; ((with_reducible refine (crashAt_is hck a1 _ c1 L3 _ _ _ _ B1_3.zones (K3.on be3) hZZ).mono ?_); rintro e w4 ⟨a4, c4, rfl, zn4, hb4⟩; have B1_4 := (B1_3.on hb4).al (devRow ds do' da a4 j c4); have B2_4 := (B2_3.on hb4).al (devRow ds do' da a4 j c4); have B3_4 := (B3_3.on hb4).al (devRow ds do' da a4 j c4); have B4_4 := Box.made (ds := ds) (op := do') (da := da) zn4; have be4 := (be3.trans (hb4.mono be3.size)).alloc (Nat.le_trans be3.size hb4.size) (devRow ds do' da a4 j c4); clear zn4 d0 d1 d2 d3; obtain ⟨y4, d0, d1, d2, d3⟩ := row4 B1_4.row))
        | (go_at_call 13; ((with_reducible refine (sync_is hck a1 _ c1 _ B1_4.zones hSZ).mono ?_); rintro e w5 ⟨a5, c5, rfl, zn5, hb5⟩; have B1_5 := (B1_4.on hb5).al (devRow ds do' da a5 j c5); have B2_5 := (B2_4.on hb5).al (devRow ds do' da a5 j c5); have B3_5 := (B3_4.on hb5).al (devRow ds do' da a5 j c5); have B4_5 := (B4_4.on hb5).al (devRow ds do' da a5 j c5); have B5_5 := Box.made (ds := ds) (op := do') (da := da) zn5; have be5 := (be4.trans (hb5.mono be4.size)).alloc (Nat.le_trans be4.size hb5.size) (devRow ds do' da a5 j c5); clear zn5 d0 d1 d2 d3; obtain ⟨y5, d0, d1, d2, d3⟩ := row4 B5_5.row))
        | (go_at_call 13; ((with_reducible refine (sync_is hckS a5 _ c5 _ B5_5.zones hTT).mono ?_); rintro e w6 ⟨a6, c6, rfl, zn6, hb6⟩; have B1_6 := (B1_5.on hb6).al (devRow ds do' da a6 j c6); have B2_6 := (B2_5.on hb6).al (devRow ds do' da a6 j c6); have B3_6 := (B3_5.on hb6).al (devRow ds do' da a6 j c6); have B4_6 := (B4_5.on hb6).al (devRow ds do' da a6 j c6); have B5_6 := (B5_5.on hb6).al (devRow ds do' da a6 j c6); have B6_6 := Box.made (ds := ds) (op := do') (da := da) zn6; have be6 := (be5.trans (hb6.mono be5.size)).alloc (Nat.le_trans be5.size hb6.size) (devRow ds do' da a6 j c6); clear zn6 d0 d1 d2 d3; obtain ⟨y6, d0, d1, d2, d3⟩ := row4 B1_6.row; obtain ⟨y7, f0, f1, f2, f3⟩ := row4 B2_6.row; obtain ⟨y8, g0, g1, g2, g3⟩ := row4 B3_6.row; obtain ⟨y9, h0, h1, h2, h3⟩ := row4 B4_6.row)))
      have bw6 := bw.trans (be6.mono bw.size)
      clear hT hB BXr bw K1 K2 K3 hLs hXZ hYZ hZZ hSZ hckS hTT hck B1_1 B1_2 B1_3 B1_4 B1_5 B2_2 B2_3 B2_4 B2_5 B3_3 B3_4 B3_5 B4_4 B4_5 B5_5 be1 be2 be3 be4 be5 be6 d0 d1 d2 d3 f0 f1 f2 f3 g0 g1 g2 g3 h0 h1 h2 h3 hb2 hb3 hb4 hb5 hb6 y2 y3 y4 y5 y6 y7 y8 y9 v0 v9
      generalize w2.heap.size = P2 at *
      generalize w3.heap.size = P3 at *
      generalize w4.heap.size = P4 at *
      generalize w5.heap.size = P5 at *
      generalize w6.alloc (devRow ds do' da a6 j c6) = W6 at *
      generalize w6.heap.size = P6 at *
      go_loopw [24] (fun v wq => ∃ i : Nat, v = .int .i64 i ∧ i ≤ j ∧ Box wq X ds do' da DZ a1 j c1 ∧ Box wq P2 ds do' da XZ a2 j c2 ∧ Box wq P3 ds do' da YZ a3 j c3 ∧ Box wq P4 ds do' da ZZ a4 j c4 ∧ Box wq P5 ds do' da SZ a5 j c5 ∧ Box wq P6 ds do' da SZ a6 j c6 ∧ Below w.heap.size w wq) (fun v _ => j - (intOf v).toNat)
      case atStart => exact ⟨0, rfl, by omega, B1_6, B2_6, B3_6, B4_6, B5_6, B6_6, bw6⟩
      case round =>
        obtain ⟨i, rfl, hi, Q1, Q2, Q3, Q4, Q5, Q6, bq⟩ := hrel
        clear B1_6 B2_6 B3_6 B4_6 B5_6 B6_6 bw6
        by_cases hlt2 : i < j
        · obtain ⟨x, z, sa, sl, sc, hx, hzk, ⟨p0, p1, p2⟩, hzs⟩ := Q1.zones.zone i hlt2
          obtain ⟨xz, yz, tz, hxz, hyz, htz, hle, heq⟩ := HREL.out i z hzk
          obtain ⟨x2, z2, sa2, sl2, sc2, hx2, hz2, ⟨q0, q1, q2⟩, hs2⟩ := Q2.zones.zone i hlt2
          obtain rfl := Option.some.inj (hxz.symm.trans hz2)
          obtain ⟨x3, z3, sa3, sl3, sc3, hx3, hz3, ⟨r0, r1, r2⟩, hs3⟩ := Q3.zones.zone i hlt2
          obtain rfl := Option.some.inj (hyz.symm.trans hz3)
          obtain ⟨x4, z4, sa4, sl4, sc4, hx4, hz4, ⟨t0, t1, t2⟩, hs4⟩ := Q4.zones.zone i hlt2
          obtain rfl := Option.some.inj (htz.symm.trans hz4)
          obtain rfl : a1 = some x := hx
          obtain rfl : a2 = some x2 := hx2
          obtain rfl : a3 = some x3 := hx3
          obtain rfl : a4 = some x4 := hx4
          have n1 := hzs.length
          have n2 := hs2.length
          have n3 := hs3.length
          have n4 := hs4.length
          have hiI : (i : Int) < (j : Int) := by omega
          have m1 : decide (sl3 < sl2) = false := decide_eq_false (by omega)
          have m2 : decide ((sl3 : Int) < (sl2 : Int)) = false := decide_eq_false (by omega)
          have m3 : (sl4 != sl) = false := by simp; omega
          have m4 : ((sl4 : Int) != (sl : Int)) = false := by simp; omega
          obtain ⟨-, d0, d1, d2, d3⟩ := row4 Q1.row
          obtain ⟨-, e0, e1, e2, e3⟩ := row4 Q2.row
          obtain ⟨-, f0, f1, f2, f3⟩ := row4 Q3.row
          obtain ⟨-, g0, g1, g2, g3⟩ := row4 Q4.row
          go_wp2_with fail
          refine Plan.start (fun W => W.cell? ⟨X, 3, none⟩ = some (.slice (some x) j c1) ∧ W.cell? ⟨P2, 3, none⟩ = some (.slice (some x2) j c2) ∧ W.cell? ⟨P3, 3, none⟩ = some (.slice (some x3) j c3) ∧ W.cell? ⟨P4, 3, none⟩ = some (.slice (some x4) j c4) ∧ W.cell? ⟨(x.add (i * 3)).block, (x.add (i * 3)).off + 2, none⟩ = some (.slice sa sl sc) ∧ W.cell? ⟨(x2.add (i * 3)).block, (x2.add (i * 3)).off + 2, none⟩ = some (.slice sa2 sl2 sc2) ∧ W.cell? ⟨(x3.add (i * 3)).block, (x3.add (i * 3)).off + 2, none⟩ = some (.slice sa3 sl3 sc3) ∧ W.cell? ⟨(x4.add (i * 3)).block, (x4.add (i * 3)).off + 2, none⟩ = some (.slice sa4 sl4 sc4)) [(0, true), (1, true), (2, true), (3, true), (4, true), (5, true), (6, true), (7, true), (8, true), (9, true), (10, true), (11, true), (12, true), (13, true), (14, true), (15, true), (16, true), (17, true), (18, true), (19, true), (20, true), (21, true), (22, true), (23, true), (24, true), (25, true), (26, true), (27, true), (28, true), (29, true), (30, true), (31, true)] (by kernel_rfl) (by kernel_rfl) (by kernel_rfl) (by kernel_rfl) ⟨d3, e3, f3, g3, p2, q2, r2, t2⟩ ?_
          simp only [List.map_cons, List.map_nil, List.getElem?_toArray, List.getElem?_cons_zero, List.getElem?_cons_succ]
          repeat (first | (refine Plan.take ?_ (by rfl) ?_ ?_; rotate_left; (· rintro w9 ⟨u0, u1, u2, u3, u4, u5, u6, u7⟩; go_simp; (try rw [if_neg (by omega)]); all_goals (with_reducible rfl)); simp only [Act.put, List.setIfInBounds_toArray, List.set_cons_zero, List.set_cons_succ]) | (refine Plan.pass (by rfl) ?_; simp only [Act.put, List.setIfInBounds_toArray, List.set_cons_zero, List.set_cons_succ]))
          refine Plan.ends ?_
          have R1 := Q1.drew
          have R2 := Q2.drew
          have R3 := Q3.drew
          have R4 := Q4.drew
          have R5 := Q5.drew
          have R6 := Q6.drew
          have br := bq.drew
          clear Q1 Q2 Q3 Q4 Q5 Q6 bq d0 d1 d2 d3 e0 e1 e2 e3 f0 f1 f2 f3 g0 g1 g2 g3 p0 p1 p2 q0 q1 q2 r0 r1 r2 t0 t1 t2 hzs hs2 hs3 hs4
          go_wp2_with fail
          go_roundw
          case rel => exact ⟨i + 1, by go_num, by omega, R1, R2, R3, R4, R5, R6, br⟩
          case measure => simp [intOf]; omega
        · obtain rfl : i = j := by omega
          obtain ⟨-, d0, d1, d2, d3⟩ := row4 Q1.row
          obtain ⟨-, e0, e1, e2, e3⟩ := row4 Q5.row
          obtain ⟨-, f0, f1, f2, f3⟩ := row4 Q6.row
          go_wp2_with (first
            | (go_at_call 15; ((with_reducible refine (same_is a5 a6 _ c5 c6 _ Q5.zones Q6.zones).mono ?_); rintro e w7 ⟨rfl, hb7⟩; have b7 := bq.trans (hb7.mono bq.size)))
            | (go_at_call 8; ((with_reducible refine (awake_med _).mono ?_); rintro e w8 ⟨rfl, hb8⟩)))
          go_ret
          exact ⟨rfl, b7.trans (hb8.mono b7.size)⟩
end Go.Proofs.Ytlplomofgbmgaaa

/- The walk of the law that a failure that keeps more loses no more, where it says nothing, and whole. -/
namespace Go.Proofs.Ytlplomofgbmgaaa
open Go.RowKit Plan ZnsMath MedMath

set_option maxHeartbeats 2000000 in
set_option maxRecDepth 20000 in
theorem mediaMore_all (a0 : Option Addr) (l0 c0 : Nat) (zs : List Int) (ka : Option Addr) (kl kc : Nat) (ks : List Int) (ma : Option Addr) (ml mc : Nat) (ms : List Int) (w : World) (h0 : IsRow .i64 w a0 l0 c0 zs) (hk : IsRow .i64 w ka kl kc ks) (hm : IsRow .u8 w ma ml mc ms) :
    Calls Try.prog 6 #[.slice a0 l0 c0, .slice ka kl kc, .slice ma ml mc] w fun e w' => e = .returned (.bool true) ∧ Below w.heap.size w w' := by
  by_cases hall : l0 ≤ 300 ∧ kl ≤ 20 ∧ ml ≤ 20
  · exact mediaMore_go a0 l0 c0 zs ka kl kc ks ma ml mc ms w h0 hk hm hall.1 hall.2.1 hall.2.2
  · have h3 : ¬ l0 ≤ 300 ∨ (l0 ≤ 300 ∧ ¬ kl ≤ 20) ∨ (l0 ≤ 300 ∧ kl ≤ 20 ∧ ¬ ml ≤ 20) := by omega
    have hlg := light_any a0 l0 c0 w
    clear hall h0 hk hm
    rcases h3 with h1 | ⟨h1, h2⟩ | ⟨h1, h2, h3⟩
    · have e1 : decide ((l0 : Int) ≤ 300) = false := decide_eq_false (by omega)
      rw [e1] at hlg
      have HL := Lib.hid hlg
      clear hlg e1 h1
      go_enter Try.func6, Try.ntmps6
      go_wp2_with (first
        | (go_at_call 9; ((with_reducible refine (HL.out).mono ?_); rintro e w1 ⟨rfl, rfl⟩))
        | (go_at_call 8; ((with_reducible refine (awake_med _).mono ?_); rintro e w7 ⟨rfl, hb7⟩)))
      go_ret
      exact ⟨rfl, hb7⟩
    · have e1 : decide ((l0 : Int) ≤ 300) = true := decide_eq_true (by omega)
      have hkI : (20 : Int) < (kl : Int) := by omega
      rw [e1] at hlg
      have HL := Lib.hid hlg
      clear hlg e1 h1 h2
      go_enter Try.func6, Try.ntmps6
      go_wp2_with (first
        | (go_at_call 9; ((with_reducible refine (HL.out).mono ?_); rintro e w1 ⟨rfl, rfl⟩))
        | (go_at_call 8; ((with_reducible refine (awake_med _).mono ?_); rintro e w7 ⟨rfl, hb7⟩)))
      go_ret
      exact ⟨rfl, hb7⟩
    · have e1 : decide ((l0 : Int) ≤ 300) = true := decide_eq_true (by omega)
      have hkI : ¬ (20 : Int) < (kl : Int) := by omega
      have hmI : (20 : Int) < (ml : Int) := by omega
      rw [e1] at hlg
      have HL := Lib.hid hlg
      clear hlg e1 h1 h2 h3
      go_enter Try.func6, Try.ntmps6
      go_wp2_with (first
        | (go_at_call 9; ((with_reducible refine (HL.out).mono ?_); rintro e w1 ⟨rfl, rfl⟩))
        | (go_at_call 8; ((with_reducible refine (awake_med _).mono ?_); rintro e w7 ⟨rfl, hb7⟩)))
      go_ret
      exact ⟨rfl, hb7⟩
end Go.Proofs.Ytlplomofgbmgaaa

/- MediaMore: a power failure that keeps more of the zones loses nothing that one which keeps less does not lose, one that keeps enough loses nothing, and a flush a second time changes nothing. No condition. -/
namespace Go.Proofs.Ytlplomofgbmgaaa.mediaMore
open Go.ChangeShapes Go.WideShapes Go.ChangeAt Go.RowKit
open Go.ChangeMaps (open_string shut_string)
set_option linter.unusedVariables false

theorem own : ownKnob Try.prog.godebug = none := by kernel_rfl
theorem laidOut : laidOutB Try.prog = true := by kernel_rfl

theorem walk (a0 : Option Addr) (l0 c0 : Nat) (z0 : List Int) (a1 : Option Addr) (l1 c1 : Nat) (z1 : List Int) (a2 : Option Addr) (l2 c2 : Nat) (z2 : List Int) (w : World) (w0 : IsRow .i64 w a0 l0 c0 z0) (w1 : IsRow .i64 w a1 l1 c1 z1) (w2 : IsRow .u8 w a2 l2 c2 z2) :
    Calls Try.prog 6 #[.slice a0 l0 c0, .slice a1 l1 c1, .slice a2 l2 c2] w fun e w' => e = .returned (.bool true) ∧ Below w.heap.size w w' := by
  exact mediaMore_all a0 l0 c0 z0 a1 l1 c1 z1 a2 l2 c2 z2 w w0 w1 w2

set_option maxRecDepth 100000 in
theorem lifted (os : Os) (started : os.Started) (H : Type) (enc : TypeId × Value → H) :
    ReturnsInHanded {} Try.checked os 6 .any (Rows.mediaMoreSpec.pre6 enc Try.prog Try.f6 Rows.mediaMoreRow.domain false) (Rows.mediaMoreSpec.post enc Try.prog Try.f6 false true false false) := by
  refine returnsInHanded_of_change (C := Try.checked) own started (by kernel_rfl) Try.func6
    (ChangeSpec.witness6 (enc := enc) (C := Try.checked) false ⟨#[], #[.slice none 0 0, .slice none 0 0, .slice none 0 0], []⟩ 8 (by kernel_rfl) (by kernel_rfl) (by kernel_rfl) (by kernel_rfl)) ?_
  intro W base args ds gs before hval0 hW hcnd _
  have hval : ∀ (j : Nat) t v, Try.f6.params[j]? = some t → args[j]? = some v → Value.okWide Try.prog W .any base t v := hval0
  have hW' := hW
  obtain ⟨p, q, hA0, hV, rfl, hfz, hnd⟩ := hW
  have hA : DataW.TrodAll enc Try.prog W 0 (fun _ => true) true Try.f6.params.toList args.toList ds p := hA0
  rw [Try.params6] at hA hval
  obtain ⟨v0, vs0, d0, ds0, p0, q0, hargs, rfl, rfl, h0, r0⟩ := trodAll_cons hA
  obtain ⟨v1, vs1, d1, ds1, p1, q1, rfl, rfl, rfl, h1, r1⟩ := trodAll_cons r0
  obtain ⟨v2, vs2, d2, ds2, p2, q2, rfl, rfl, rfl, h2, r2⟩ := trodAll_cons r1
  obtain ⟨rfl, rfl, rfl⟩ := trodAll_nil r2
  obtain rfl : args = #[v0, v1, v2] := by cases args; simp_all
  obtain ⟨rfl, rfl⟩ := trodVars_none hV
  have k0' := h0
  have lt0 : ∀ x ∈ p0, x.block < W.heap.size := by obtain ⟨m, hm⟩ := h0; exact DataW.trod_lt m _ _ _ hm
  have k1' := h1
  have lt1 : ∀ x ∈ p1, x.block < W.heap.size := by obtain ⟨m, hm⟩ := h1; exact DataW.trod_lt m _ _ _ hm
  have k2' := h2
  have lt2 : ∀ x ∈ p2, x.block < W.heap.size := by obtain ⟨m, hm⟩ := h2; exact DataW.trod_lt m _ _ _ hm
  obtain ⟨a0, l0, c0, rfl⟩ := okWide_slice Try.underlying25 (hval 0 25 v0 rfl rfl)
  obtain ⟨z0, w0⟩ : ∃ zs, IsRow .i64 W a0 l0 c0 zs := by
    obtain ⟨fuel, hf⟩ := h0
    rcases open_ints Try.underlying25 Try.underlying3 (by kernel_rfl) hf with ⟨hcs, _⟩ | ⟨x, l, c, zs, hcs, _, hl, hm, hz, _, hcell, hwz⟩
    · simp [Value.cells] at hcs
      obtain ⟨rfl, rfl, rfl⟩ := hcs
      exact ⟨[], .inl ⟨rfl, rfl, rfl, rfl⟩⟩
    · simp [Value.cells] at hcs
      obtain ⟨rfl, rfl, rfl⟩ := hcs
      exact ⟨zs, .inr ⟨_, rfl, hl, hm, by simpa using hz, hcell, hwz⟩⟩
  obtain ⟨a1, l1, c1, rfl⟩ := okWide_slice Try.underlying25 (hval 1 25 v1 rfl rfl)
  obtain ⟨z1, w1⟩ : ∃ zs, IsRow .i64 W a1 l1 c1 zs := by
    obtain ⟨fuel, hf⟩ := h1
    rcases open_ints Try.underlying25 Try.underlying3 (by kernel_rfl) hf with ⟨hcs, _⟩ | ⟨x, l, c, zs, hcs, _, hl, hm, hz, _, hcell, hwz⟩
    · simp [Value.cells] at hcs
      obtain ⟨rfl, rfl, rfl⟩ := hcs
      exact ⟨[], .inl ⟨rfl, rfl, rfl, rfl⟩⟩
    · simp [Value.cells] at hcs
      obtain ⟨rfl, rfl, rfl⟩ := hcs
      exact ⟨zs, .inr ⟨_, rfl, hl, hm, by simpa using hz, hcell, hwz⟩⟩
  obtain ⟨a2, l2, c2, rfl⟩ := okWide_slice Try.underlying42 (hval 2 42 v2 rfl rfl)
  obtain ⟨z2, w2⟩ : ∃ zs, IsRow .u8 W a2 l2 c2 zs := by
    obtain ⟨fuel, hf⟩ := h2
    rcases open_ints Try.underlying42 Try.underlying5 (by kernel_rfl) hf with ⟨hcs, _⟩ | ⟨x, l, c, zs, hcs, _, hl, hm, hz, _, hcell, hwz⟩
    · simp [Value.cells] at hcs
      obtain ⟨rfl, rfl, rfl⟩ := hcs
      exact ⟨[], .inl ⟨rfl, rfl, rfl, rfl⟩⟩
    · simp [Value.cells] at hcs
      obtain ⟨rfl, rfl, rfl⟩ := hcs
      exact ⟨zs, .inr ⟨_, rfl, hl, hm, by simpa using hz, hcell, hwz⟩⟩
  clear hA0 hval0
  refine (walk a0 l0 c0 z0 a1 l1 c1 z1 a2 l2 c2 z2 W w0 w1 w2).mono fun e W' ⟨he, bel⟩ => ?_
  subst he
  exact ⟨_, rfl, _, _, _, [], _, [], hW', trodAll_mk1 (shut_bool Try.underlying4 _), (trodAll_cons_mk (Below.trod laidOut (by kernel_rfl) (of_decide_eq_true (by kernel_rfl)) k0' bel lt0) (trodAll_cons_mk (Below.trod laidOut (by kernel_rfl) (of_decide_eq_true (by kernel_rfl)) k1' bel lt1) (trodAll_cons_mk (Below.trod laidOut (by kernel_rfl) (of_decide_eq_true (by kernel_rfl)) k2' bel lt2) trodAll_mk0))), rfl, bel.frame _, fun h => by cases h⟩

theorem over : Rows.mediaMoreRow.holds Try.pinned (OpenSpec.ofChange Rows.mediaMoreSpec) :=
  OpenClaim.holds_of_wide 6 Try.f6 rfl rfl rfl rfl rfl rfl rfl ⟨rfl, rfl, rfl, rfl, rfl⟩ rfl rfl rfl rfl rfl (by kernel_rfl) Try.func6 (by kernel_rfl)
    (of_decide_eq_true (by kernel_rfl)) (by unfold Func.isWrapper; first | (rw [if_pos (by decide +kernel)]; kernel_rfl) | (rw [if_neg (by decide +kernel)]; exact ⟨rfl, rfl⟩))
    (fun os started H enc _ => lifted os started H enc)
end Go.Proofs.Ytlplomofgbmgaaa.mediaMore

namespace Go.Proofs.Ytlplomofgbmgaaa
theorem mediaMore_holds : Rows.MediaMoreSaid := mediaMore.over
end Go.Proofs.Ytlplomofgbmgaaa
