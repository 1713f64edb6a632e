/- Texts that belong together, part 11. -/
import Derived.Test.YtlmlmgegnnikeaaPack10

/- The walk of the program's search for an open zone, and of making room. -/
namespace Go.Proofs.Ytlmlmgegnnikeaa
open Go.RowKit Plan ZnsMath

theorem isOne_any (z : Zone) (a : Option Addr) (len cap : Nat) (w : World) :
    Calls Try.prog 75 #[zoneV z a len cap] w fun e w' => e = .returned (.bool (z.state == 1)) ∧ Below w.heap.size w w' := by
  obtain ⟨st, du, L⟩ := z
  change Calls Try.prog 75 #[.agg #[.int .i64 st, .int .i64 du, .slice a len cap]] w fun e w' => e = .returned (.bool (st == 1)) ∧ Below w.heap.size w w'
  go_enter Try.func75, Try.ntmps75
  go_wp2
  go_ret
  exact ⟨rfl, (Below.refl _ _).alloc (Nat.le_refl _) _⟩
abbrev oneV : Value := .func (Fn.func 75) #[] #[]
set_option maxHeartbeats 2000000 in
set_option maxRecDepth 20000 in
theorem indexOne_any (Z : List Zone) (a : Option Addr) (len cap : Nat) (w : World) (hz : IsZones w a len cap Z) :
    Calls Try.prog 74 #[.slice a len cap, oneV] w fun e w' => e = .returned (.int .i64 (if firstOpen Z = Z.length then -1 else (firstOpen Z : Int))) ∧ Below w.heap.size w w' := by
  have hl := hz.length
  have hm := hz.len_le
  have hat := fun W (h : Below w.heap.size w W) i (hi : i < len) => (hz.on h (Nat.le_refl _)).zone i hi
  have hne := first_ne Z
  have heq := first_eq Z
  have hle := first_le Z
  rw [hl] at hle ⊢
  generalize firstOpen Z = fo at *
  generalize hR : (if fo = len then (-1 : Int) else fo) = R
  have HR := Lib.hid hR
  have HA := Lib.hid hat
  have HN := Lib.hid hne
  have HQ := Lib.hid heq
  clear hat hl hz hne heq hR
  go_enter Try.func74, Try.ntmps74
  go_wp2_with fail
  go_loopw [8] (fun c wr => ∃ k : Nat, c = .int .i64 k ∧ k ≤ fo ∧ Below w.heap.size w wr) (fun c _ => len - (intOf c).toNat)
  case atStart => exact ⟨0, rfl, by omega, Below.refl _ _⟩
  case round =>
    obtain ⟨k, rfl, hk, hbl⟩ := hrel
    by_cases hlt : k < len
    · obtain ⟨x, z, sa, sl, sc, rfl, hzk, ⟨c0, c1, c2⟩, -⟩ := HA.out wr hbl k hlt
      have hkI : (k : Int) < (len : Int) := by omega
      have HO := Lib.hid (fun W => isOne_any z sa sl sc W)
      by_cases hf : k = fo
      · subst hf
        have h1 : z.state = 1 := HQ.out z hzk
        have hs : (z.state == 1) = true := by simp [h1]
        have hR1 : R = (k : Int) := by rw [← HR.out, if_neg (by omega)]
        subst hR1
        clear h1
        go_wp2_with (go_at_call 75; ((with_reducible refine (HO.out _).mono ?_); rintro e w1 ⟨rfl, hb1⟩; rw [hs]))
        go_ret
        exact ⟨rfl, hbl.trans (hb1.mono hbl.size)⟩
      · have h1 : z.state ≠ 1 := HN.out k z (by omega) hzk
        have hs : (z.state == 1) = false := by simp [h1]
        go_wp2_with (go_at_call 75; ((with_reducible refine (HO.out _).mono ?_); rintro e w1 ⟨rfl, hb1⟩; rw [hs]))
        go_roundw
        case rel => exact ⟨k + 1, by go_num, by omega, hbl.trans (hb1.mono hbl.size)⟩
        case measure => simp [intOf]; omega
    · obtain rfl : k = len := by omega
      have hR1 : R = -1 := by rw [← HR.out, if_pos (by omega)]
      subst hR1
      go_wp2_with fail
      go_ret
      exact ⟨rfl, hbl⟩
set_option maxHeartbeats 2000000 in
set_option maxRecDepth 20000 in
theorem makeRoom_free (F : Nat → Prop) (D : Dev) (a : Option Addr) (len cap i : Nat) (w : World) (hz : ZonesIn w F a len cap D.zones) (hi : i < len) (hO : (countO D.zones : Int) ≠ D.maxOpen) :
    Calls Try.prog 68 #[devV D a len cap, .int .i64 (i : Int)] w (DevPost w F len D (if activeB (D.zones.getD i empty).state = false ∧ (countA D.zones : Int) = D.maxActive then 9 else 0)) := by
  have hl := hz.is.length
  have hcn := fun W (h : Below w.heap.size w W) => counts_any D a len cap W (hz.on (Agree.below h)).is
  have hiI : (i : Int) < (len : Int) := by omega
  obtain ⟨x, z, sa, sl, sc, rfl, hzk, hza, -⟩ := hz.zone i hi
  have hxb := zone_block hza
  have hact := fun W => isActive_any z sa sl sc W
  have hA : Below w.heap.size w (((w.alloc (devRow D.size D.maxOpen D.maxActive (some x) len cap)).alloc (devRow 0 0 0 none 0 0)).alloc (devRow D.size D.maxOpen D.maxActive (some x) len cap)) := (((Below.refl _ _).alloc (Nat.le_refl _) _).alloc (by simp only [World.size_alloc]; omega) _).alloc (by simp only [World.size_alloc]; omega) _
  rw [getD_of hzk]
  generalize activeB z.state = AB at *
  generalize countO D.zones = CO at *
  generalize countA D.zones = CA at *
  unfold DevPost
  have ho : ((CO : Int) == D.maxOpen) = false := by simp [hO]
  have HK := Lib.hid hcn
  have HT := Lib.hid hact
  have HA := Lib.hid hA
  have HZ := Lib.hid hza
  clear hcn hact hA hza hO
  obtain ⟨size, op, act, Z⟩ := D
  obtain ⟨st, du, L⟩ := z
  have hsplit : ∀ E : Int, (AB = false ∧ ((CA : Int) == act) = true ∧ E = 9) ∨ (AB = true ∧ ((CA : Int) == act) = true ∧ E = 0) ∨ (((CA : Int) == act) = false ∧ E = 0) → Calls Try.prog 68 #[.agg #[.int .i64 size, .int .i64 op, .int .i64 act, .slice (some x) len cap], .int .i64 (i : Int)] w fun e w' => ∃ a cap, e = .returned (.tuple #[.agg #[.int .i64 size, .int .i64 op, .int .i64 act, .slice a len cap], .int .i64 E]) ∧ ZonesIn w' (Plus F w.heap.size) a len cap Z ∧ Below w.heap.size w w' := by
    rintro E (⟨rfl, hca, rfl⟩ | ⟨rfl, hca, rfl⟩ | ⟨hca, rfl⟩)
    · go_enter Try.func68, Try.ntmps68
      go_wp2_with (first
        | (go_at_call 24; ((with_reducible refine (HK.out _ HA.out).mono ?_); rintro e w1 ⟨rfl, hb1⟩; have hx1 := row_on hb1 (row_al (heap_first2 w _ _) _) (by simp only [World.size_alloc]; omega); have hr1 := row_on hb1 (row_al (heap_second w _ _) _) (by simp only [World.size_alloc]; omega); have hv1 := row_on hb1 (heap_third w _ _ _) (by simp only [World.size_alloc]; omega); obtain ⟨y1, d0, d1, d2, d3⟩ := row4 hx1; obtain ⟨v1, l0, l1, l2, l3⟩ := row4 hv1; have b1 := HA.out.trans (hb1.mono (by simp only [World.size_alloc]; omega)); clear HA))
        | (go_at_call 24; ((with_reducible refine (HK.out _ b1).mono ?_); rintro e w2 ⟨rfl, hb2⟩; have hx2 := row_on hb2 hx1 (lt_of_block hx1); have hr2 := row_on hb2 hr1 (lt_of_block hr1); have hv2 := row_on hb2 hv1 (lt_of_block hv1); obtain ⟨y2, d0, d1, d2, d3⟩ := row4 hx2; obtain ⟨v2, l0, l1, l2, l3⟩ := row4 hv2; have b2 := b1.trans (hb2.mono b1.size); obtain ⟨zc0, zc1, zc2⟩ := HZ.out.on b2 hxb))
        | (go_at_call 51; ((with_reducible refine (HT.out _).mono ?_); rintro e w3 ⟨rfl, hb3⟩; have hx3 := row_on hb3 hx2 (lt_of_block hx2); have hr3 := row_on hb3 hr2 (lt_of_block hr2); have hv3 := row_on hb3 hv2 (lt_of_block hv2); obtain ⟨y3, d0, d1, d2, d3⟩ := row4 hx3; obtain ⟨v3, l0, l1, l2, l3⟩ := row4 hv3; have b3 := b2.trans (hb3.mono b2.size)))
        | (((with_reducible refine Plan.store_lit 24 (.tmp 4) _ (w.heap.size + 1) ?_ hr3 ?_ ?_ ?_ ?_ ?_ ?_); rotate_left; (· rfl); (· rfl); (· exact dev_info); (· rfl); (· simp [Value.oneCell']); simp only [Act.put])))
      have b4 := below_setRow b3 (show w.heap.size ≤ w.heap.size + 1 by omega) #[.int .i64 size, .int .i64 op, .int .i64 act, .slice (some x) len cap]
      refine bodyPost_ret (Plan.results_cell_tmp (p := 4) (q := 5) rfl _ _ _ _ _ _ _ rfl (setRow_heap _ _ _ _ _ _ hr3) Try.underlying24 rfl dev_info) rfl ⟨some x, cap, rfl, (hz.on (Agree.below b4)).mono (fun b _ hb => .inl hb), b4⟩
    · go_enter Try.func68, Try.ntmps68
      go_wp2_with (first
        | (go_at_call 24; ((with_reducible refine (HK.out _ HA.out).mono ?_); rintro e w1 ⟨rfl, hb1⟩; have hx1 := row_on hb1 (row_al (heap_first2 w _ _) _) (by simp only [World.size_alloc]; omega); have hr1 := row_on hb1 (row_al (heap_second w _ _) _) (by simp only [World.size_alloc]; omega); have hv1 := row_on hb1 (heap_third w _ _ _) (by simp only [World.size_alloc]; omega); obtain ⟨y1, d0, d1, d2, d3⟩ := row4 hx1; obtain ⟨v1, l0, l1, l2, l3⟩ := row4 hv1; have b1 := HA.out.trans (hb1.mono (by simp only [World.size_alloc]; omega)); clear HA))
        | (go_at_call 24; ((with_reducible refine (HK.out _ b1).mono ?_); rintro e w2 ⟨rfl, hb2⟩; have hx2 := row_on hb2 hx1 (lt_of_block hx1); have hr2 := row_on hb2 hr1 (lt_of_block hr1); have hv2 := row_on hb2 hv1 (lt_of_block hv1); obtain ⟨y2, d0, d1, d2, d3⟩ := row4 hx2; obtain ⟨v2, l0, l1, l2, l3⟩ := row4 hv2; have b2 := b1.trans (hb2.mono b1.size); obtain ⟨zc0, zc1, zc2⟩ := HZ.out.on b2 hxb))
        | (go_at_call 51; ((with_reducible refine (HT.out _).mono ?_); rintro e w3 ⟨rfl, hb3⟩; have hx3 := row_on hb3 hx2 (lt_of_block hx2); have hr3 := row_on hb3 hr2 (lt_of_block hr2); have hv3 := row_on hb3 hv2 (lt_of_block hv2); obtain ⟨y3, d0, d1, d2, d3⟩ := row4 hx3; obtain ⟨v3, l0, l1, l2, l3⟩ := row4 hv3; have b3 := b2.trans (hb3.mono b2.size)))
        | (((with_reducible refine Plan.store_lit 24 (.tmp 4) _ (w.heap.size + 1) ?_ hr3 ?_ ?_ ?_ ?_ ?_ ?_); rotate_left; (· rfl); (· rfl); (· exact dev_info); (· rfl); (· simp [Value.oneCell']); simp only [Act.put])))
      have b4 := below_setRow b3 (show w.heap.size ≤ w.heap.size + 1 by omega) #[.int .i64 size, .int .i64 op, .int .i64 act, .slice (some x) len cap]
      refine bodyPost_ret (Plan.results_cell_tmp (p := 4) (q := 5) rfl _ _ _ _ _ _ _ rfl (setRow_heap _ _ _ _ _ _ hr3) Try.underlying24 rfl dev_info) rfl ⟨some x, cap, rfl, (hz.on (Agree.below b4)).mono (fun b _ hb => .inl hb), b4⟩
    · go_enter Try.func68, Try.ntmps68
      go_wp2_with (first
        | (go_at_call 24; ((with_reducible refine (HK.out _ HA.out).mono ?_); rintro e w1 ⟨rfl, hb1⟩; have hx1 := row_on hb1 (row_al (heap_first2 w _ _) _) (by simp only [World.size_alloc]; omega); have hr1 := row_on hb1 (row_al (heap_second w _ _) _) (by simp only [World.size_alloc]; omega); have hv1 := row_on hb1 (heap_third w _ _ _) (by simp only [World.size_alloc]; omega); obtain ⟨y1, d0, d1, d2, d3⟩ := row4 hx1; obtain ⟨v1, l0, l1, l2, l3⟩ := row4 hv1; have b1 := HA.out.trans (hb1.mono (by simp only [World.size_alloc]; omega)); clear HA))
        | (go_at_call 24; ((with_reducible refine (HK.out _ b1).mono ?_); rintro e w2 ⟨rfl, hb2⟩; have hx2 := row_on hb2 hx1 (lt_of_block hx1); have hr2 := row_on hb2 hr1 (lt_of_block hr1); have hv2 := row_on hb2 hv1 (lt_of_block hv1); obtain ⟨y2, d0, d1, d2, d3⟩ := row4 hx2; obtain ⟨v2, l0, l1, l2, l3⟩ := row4 hv2; have b2 := b1.trans (hb2.mono b1.size); obtain ⟨zc0, zc1, zc2⟩ := HZ.out.on b2 hxb))
        | (((with_reducible refine Plan.store_lit 24 (.tmp 4) _ (w.heap.size + 1) ?_ hr2 ?_ ?_ ?_ ?_ ?_ ?_); rotate_left; (· rfl); (· rfl); (· exact dev_info); (· rfl); (· simp [Value.oneCell']); simp only [Act.put])))
      have b4 := below_setRow b2 (show w.heap.size ≤ w.heap.size + 1 by omega) #[.int .i64 size, .int .i64 op, .int .i64 act, .slice (some x) len cap]
      refine bodyPost_ret (Plan.results_cell_tmp (p := 4) (q := 5) rfl _ _ _ _ _ _ _ rfl (setRow_heap _ _ _ _ _ _ hr2) Try.underlying24 rfl dev_info) rfl ⟨some x, cap, rfl, (hz.on (Agree.below b4)).mono (fun b _ hb => .inl hb), b4⟩
  apply hsplit
  by_cases h1 : (CA : Int) = act
  · cases AB
    · exact .inl ⟨rfl, by simp [h1], if_pos ⟨rfl, h1⟩⟩
    · exact .inr (.inl ⟨rfl, by simp [h1], if_neg (by simp)⟩)
  · exact .inr (.inr ⟨by simp [h1], if_neg (fun h => h1 h.2)⟩)
set_option maxHeartbeats 2000000 in
set_option maxRecDepth 20000 in
theorem makeRoom_none (F : Nat → Prop) (D : Dev) (a : Option Addr) (len cap i : Nat) (w : World) (hz : ZonesIn w F a len cap D.zones) (hO : (countO D.zones : Int) = D.maxOpen) (hf : firstOpen D.zones = D.zones.length) :
    Calls Try.prog 68 #[devV D a len cap, .int .i64 (i : Int)] w (DevPost w F len D 8) := by
  have hcn := fun W (h : Below w.heap.size w W) => counts_any D a len cap W (hz.on (Agree.below h)).is
  have hix := fun W (h : Below w.heap.size w W) => indexOne_any D.zones a len cap W (hz.on (Agree.below h)).is
  rw [if_pos hf] at hix
  have hA : Below w.heap.size w (((w.alloc (devRow D.size D.maxOpen D.maxActive a len cap)).alloc (devRow 0 0 0 none 0 0)).alloc (devRow D.size D.maxOpen D.maxActive a len cap)) := (((Below.refl _ _).alloc (Nat.le_refl _) _).alloc (by simp only [World.size_alloc]; omega) _).alloc (by simp only [World.size_alloc]; omega) _
  generalize countO D.zones = CO at *
  generalize countA D.zones = CA at *
  unfold DevPost
  have ho : ((CO : Int) == D.maxOpen) = true := by simp [hO]
  have HK := Lib.hid hcn
  have HX := Lib.hid hix
  have HA := Lib.hid hA
  clear hcn hix hA hO hf
  obtain ⟨size, op, act, Z⟩ := D
  go_enter Try.func68, Try.ntmps68
  go_wp2_with (first
    | (go_at_call 24; ((with_reducible refine (HK.out _ HA.out).mono ?_); rintro e w1 ⟨rfl, hb1⟩; have hx1 := row_on hb1 (row_al (heap_first2 w _ _) _) (by simp only [World.size_alloc]; omega); have hr1 := row_on hb1 (row_al (heap_second w _ _) _) (by simp only [World.size_alloc]; omega); have hv1 := row_on hb1 (heap_third w _ _ _) (by simp only [World.size_alloc]; omega); obtain ⟨y1, d0, d1, d2, d3⟩ := row4 hx1; obtain ⟨v1, l0, l1, l2, l3⟩ := row4 hv1; have b1 := HA.out.trans (hb1.mono (by simp only [World.size_alloc]; omega)); clear HA))
    | (go_at_call 74; ((with_reducible refine (HX.out _ b1).mono ?_); rintro e w2 ⟨rfl, hb2⟩; have hx2 := row_on hb2 hx1 (lt_of_block hx1); have hr2 := row_on hb2 hr1 (lt_of_block hr1); have hv2 := row_on hb2 hv1 (lt_of_block hv1); obtain ⟨y2, d0, d1, d2, d3⟩ := row4 hx2; obtain ⟨v2, l0, l1, l2, l3⟩ := row4 hv2; have b2 := b1.trans (hb2.mono b1.size)))
    | (((with_reducible refine Plan.store_lit 24 (.tmp 4) _ (w.heap.size + 1) ?_ hr2 ?_ ?_ ?_ ?_ ?_ ?_); rotate_left; (· rfl); (· rfl); (· exact dev_info); (· rfl); (· simp [Value.oneCell']); simp only [Act.put])))
  have b4 := below_setRow b2 (show w.heap.size ≤ w.heap.size + 1 by omega) #[.int .i64 size, .int .i64 op, .int .i64 act, .slice a len cap]
  refine bodyPost_ret (Plan.results_cell_tmp (p := 4) (q := 5) rfl _ _ _ _ _ _ _ rfl (setRow_heap _ _ _ _ _ _ hr2) Try.underlying24 rfl dev_info) rfl ⟨a, cap, rfl, (hz.on (Agree.below b4)).mono (fun b _ hb => .inl hb), b4⟩
set_option maxHeartbeats 2000000 in
set_option maxRecDepth 20000 in
theorem makeRoom_clear (F : Nat → Prop) (D : Dev) (a : Option Addr) (len cap i : Nat) (w : World) (hF : ∀ b, F b → b < w.heap.size) (hz : ZonesIn w F a len cap D.zones) (hm : len ≤ 1000000) (hi : i < len) (hO : (countO D.zones : Int) = D.maxOpen) (hf : firstOpen D.zones < D.zones.length) :
    Calls Try.prog 68 #[devV D a len cap, .int .i64 (i : Int)] w (DevPost w F len
      (if activeB (D.zones.getD i empty).state = false ∧ (countA (withZ D (firstOpen D.zones) (shut (D.zones.getD (firstOpen D.zones) empty))).zones : Int) = D.maxActive then D else withZ D (firstOpen D.zones) (shut (D.zones.getD (firstOpen D.zones) empty)))
      (if activeB (D.zones.getD i empty).state = false ∧ (countA (withZ D (firstOpen D.zones) (shut (D.zones.getD (firstOpen D.zones) empty))).zones : Int) = D.maxActive then 9 else 0)) := by
  have hl := hz.is.length
  have hcn := fun W (h : Below w.heap.size w W) => counts_any D a len cap W (hz.on (Agree.below h)).is
  have hiI : (i : Int) < (len : Int) := by omega
  obtain ⟨x, z, sa, sl, sc, rfl, hzk, hza, -⟩ := hz.zone i hi
  have hxb := zone_block hza
  have hact := fun W => isActive_any z sa sl sc W
  have hA : Below w.heap.size w (((w.alloc (devRow D.size D.maxOpen D.maxActive (some x) len cap)).alloc (devRow 0 0 0 none 0 0)).alloc (devRow D.size D.maxOpen D.maxActive (some x) len cap)) := (((Below.refl _ _).alloc (Nat.le_refl _) _).alloc (by simp only [World.size_alloc]; omega) _).alloc (by simp only [World.size_alloc]; omega) _
  have hix := fun W (h : Below w.heap.size w W) => indexOne_any D.zones (some x) len cap W (hz.on (Agree.below h)).is
  rw [if_neg (by omega)] at hix
  have heq := first_eq D.zones
  rw [getD_of hzk]
  rw [hl] at hf
  obtain ⟨fo, hfo⟩ : ∃ fo, firstOpen D.zones = fo := ⟨_, rfl⟩
  rw [hfo] at hix heq hf ⊢
  have hfI : (fo : Int) < (len : Int) := by omega
  have hf0 : ¬ (fo : Int) < 0 := by omega
  obtain ⟨x', y, ta, tl, tc, hx', hyk, hya, hys⟩ := hz.zone fo hf
  obtain rfl := Option.some.inj hx'
  have htl := hys.1.length
  rw [getD_of hyk]
  have hsh : ∀ W, Calls Try.prog 57 #[zoneV y ta tl tc] W fun e w' => e = .returned (.agg #[.int .i64 (shut y).state, .int .i64 y.durable, .slice ta tl tc]) ∧ Below W.heap.size W w' := fun W => closed_any y ta tl tc W htl
  have hwt : ∀ W, Below w.heap.size w W → Calls Try.prog 48 #[devV D (some x) len cap, .int .i64 (fo : Int), .agg #[.int .i64 (shut y).state, .int .i64 y.durable, .slice ta tl tc]] W fun e w' => ∃ a' cap', e = .returned (devV (withZ D fo (shut y)) a' len cap') ∧ ZonesIn w' (Plus F W.heap.size) a' len cap' (withZ D fo (shut y)).zones ∧ Below W.heap.size W w' := fun W h => pwith_from F D (some x) len cap fo (shut y).state y.durable y.sectors ta tl tc W (hz.on (Agree.below h)) hf hm (hys.on (Agree.below h))
  have hcn2 := fun W a2 c2 (h : IsZones W a2 len c2 (withZ D fo (shut y)).zones) => counts_any (withZ D fo (shut y)) a2 len c2 W h
  unfold DevPost
  generalize countO D.zones = CO at *
  generalize countA D.zones = CA at *
  generalize countO (withZ D fo (shut y)).zones = CO2 at *
  generalize countA (withZ D fo (shut y)).zones = CA2 at *
  generalize activeB z.state = AB at *
  generalize hDD : (if AB = false ∧ (CA2 : Int) = D.maxActive then D else withZ D fo (shut y)) = DD
  generalize hEE : (if AB = false ∧ (CA2 : Int) = D.maxActive then (9 : Int) else 0) = EE
  generalize hss : (shut y).state = ss at *
  have ho : ((CO : Int) == D.maxOpen) = true := by simp [hO]
  have HDD := Lib.hid hDD
  have HEE := Lib.hid hEE
  have HK := Lib.hid hcn
  have HX := Lib.hid hix
  have HC2 := Lib.hid hcn2
  have HA := Lib.hid hA
  have HZ := Lib.hid hza
  have HY := Lib.hid hya
  have HT := Lib.hid hact
  have HS := Lib.hid hsh
  have HW := Lib.hid hwt
  clear hDD hEE hcn hix hcn2 hA heq hza hya hact hsh hwt hfo hx' hys hO hss
  obtain ⟨size, op, act, Z⟩ := D
  obtain ⟨st, du, L⟩ := z
  obtain ⟨ys, yd, yL⟩ := y
  try simp only at hyk hzk
  go_enter Try.func68, Try.ntmps68
  go_wp2_with (first
    | (go_at_call 24; ((with_reducible refine (HK.out _ HA.out).mono ?_); rintro e w1 ⟨rfl, hb1⟩; have hx1 := row_on hb1 (row_al (heap_first2 w _ _) _) (by simp only [World.size_alloc]; omega); have hr1 := row_on hb1 (row_al (heap_second w _ _) _) (by simp only [World.size_alloc]; omega); have hv1 := row_on hb1 (heap_third w _ _ _) (by simp only [World.size_alloc]; omega); obtain ⟨y1, d0, d1, d2, d3⟩ := row4 hx1; obtain ⟨v1, l0, l1, l2, l3⟩ := row4 hv1; have b1 := HA.out.trans (hb1.mono (by simp only [World.size_alloc]; omega)); clear HA))
    | (go_at_call 74; ((with_reducible refine (HX.out _ b1).mono ?_); rintro e w2 ⟨rfl, hb2⟩; have hx2 := row_on hb2 hx1 (lt_of_block hx1); have hr2 := row_on hb2 hr1 (lt_of_block hr1); have hv2 := row_on hb2 hv1 (lt_of_block hv1); obtain ⟨y2, d0, d1, d2, d3⟩ := row4 hx2; obtain ⟨v2, l0, l1, l2, l3⟩ := row4 hv2; have b2 := b1.trans (hb2.mono b1.size); obtain ⟨zc0, zc1, zc2⟩ := HY.out.on b2 hxb)))
  refine Plan.start (fun W => DevAt W w.heap.size size op act (some x) len cap ∧ ZoneAt W x fo ⟨ys, yd, yL⟩ ta tl tc) [(0, true), (1, true), (2, true), (3, true), (4, true), (5, true), (6, true), (7, false), (8, false), (9, false)] (by kernel_rfl) (by kernel_rfl) (by kernel_rfl) (by kernel_rfl) ⟨⟨d0, d1, d2, d3⟩, zc0, zc1, zc2⟩ ?_
  simp only [List.map_cons, List.map_nil, List.getElem?_toArray, List.getElem?_cons_zero, List.getElem?_cons_succ]
  repeat (first | (refine Plan.take ?_ (by rfl) ?_ ?_; rotate_left; (· rintro w9 ⟨⟨e0, e1, e2, e3⟩, z0, z1, z2⟩; go_simp; (try rw [if_neg (by omega)]); all_goals (with_reducible rfl)); simp only [Act.put, List.setIfInBounds_toArray, List.set_cons_zero, List.set_cons_succ]) | (refine Plan.pass (by rfl) ?_; simp only [Act.put, List.setIfInBounds_toArray, List.set_cons_zero, List.set_cons_succ]))
  refine Plan.call (by rfl) 57 _ ?_ (HS.out _) ?_
  · go_simp
  rintro e w3 ⟨rfl, hb3⟩
  have hb3 := (Below.refl w2.heap.size w2).drew.trans hb3
  have hx3 := row_on hb3 hx2 (lt_of_block hx2)
  have hr3 := row_on hb3 hr2 (lt_of_block hr2)
  have hv3 := row_on hb3 hv2 (lt_of_block hv2)
  obtain ⟨y3, d0, d1, d2, d3⟩ := row4 hx3
  obtain ⟨v3, l0, l1, l2, l3⟩ := row4 hv3
  have b3 := b2.trans (hb3.mono b2.size)
  refine ⟨_, rfl, ⟨⟨d0, d1, d2, d3⟩, HY.out.on b3 hxb⟩, ?_⟩
  simp only [Act.put, List.setIfInBounds_toArray, List.set_cons_zero, List.set_cons_succ]
  refine Plan.call (by rfl) 48 _ ?_ (HW.out _ b3) ?_
  · go_simp
  rintro e w4 ⟨a2, c2, rfl, hz2, hb4⟩
  have hx4 := row_on hb4 hx3 (lt_of_block hx3)
  have hr4 := row_on hb4 hr3 (lt_of_block hr3)
  have hv4 := row_on hb4 hv3 (lt_of_block hv3)
  obtain ⟨y4, d0, d1, d2, d3⟩ := row4 hx4
  obtain ⟨v4, l0, l1, l2, l3⟩ := row4 hv4
  have b4 := b3.trans (hb4.mono b3.size)
  refine ⟨_, rfl, ⟨⟨d0, d1, d2, d3⟩, HY.out.on b4 hxb⟩, ?_⟩
  simp only [Act.put, List.setIfInBounds_toArray, List.set_cons_zero, List.set_cons_succ]
  have b6 := below_setRow b4 (show w.heap.size ≤ w.heap.size + 1 + 1 by omega) #[.int .i64 size, .int .i64 op, .int .i64 act, .slice a2 len c2]
  have hx6 := (setRow_other w4 (w.heap.size + 1 + 1) w.heap.size #[.int .i64 size, .int .i64 op, .int .i64 act, .slice a2 len c2] (by omega)).trans hx4
  have hr6 := (setRow_other w4 (w.heap.size + 1 + 1) (w.heap.size + 1) #[.int .i64 size, .int .i64 op, .int .i64 act, .slice a2 len c2] (by omega)).trans hr4
  have hv6 := setRow_heap w4 (w.heap.size + 1 + 1) _ #[.int .i64 size, .int .i64 op, .int .i64 act, .slice a2 len c2] _ _ hv4
  have hz6 := hz2.on (Agree.row (plus_not hF (by omega) (by have := lt_of_block hv3; omega) : ¬ Plus F w3.heap.size (w.heap.size + 1 + 1)) #[.int .i64 size, .int .i64 op, .int .i64 act, .slice a2 len c2])
  refine Plan.store (by rfl) 24 _ _ rfl (w.heap.size + 1 + 1) #[.int .i64 size, .int .i64 op, .int .i64 act, .slice a2 len c2] (by rfl) (by rfl) 24 _ hv4 dev_info rfl (by simp [Value.oneCell']) ⟨(row4 hx6).2, HY.out.on b6 hxb⟩ ?_
  simp only [Act.put]
  refine Plan.ends ?_
  generalize w4.setRow (w.heap.size + 1 + 1) #[.int .i64 size, .int .i64 op, .int .i64 act, .slice a2 len c2] = w6 at b6 hx6 hr6 hv6 hz6 ⊢
  have hcc : Calls Try.prog 24 #[.agg #[.int .i64 size, .int .i64 op, .int .i64 act, .slice a2 len c2]] w6 fun e w' => e = .returned (.tuple #[.int .i64 (CO2 : Int), .int .i64 (CA2 : Int)]) ∧ Below w6.heap.size w6 w' := HC2.out w6 a2 c2 hz6.is
  have HCC := Lib.hid hcc
  clear hcc d0 d1 d2 d3 l0 l1 l2 l3 zc0 zc1 zc2
  obtain ⟨y6, d0, d1, d2, d3⟩ := row4 hx6
  obtain ⟨v6, l0, l1, l2, l3⟩ := row4 hv6
  have hsplit : (AB = false ∧ (CA2 : Int) = act) ∨ (AB = true ∧ (CA2 : Int) = act) ∨ ¬ (CA2 : Int) = act := by
    by_cases h : (CA2 : Int) = act
    · cases AB
      · exact .inl ⟨rfl, h⟩
      · exact .inr (.inl ⟨rfl, h⟩)
    · exact .inr (.inr h)
  have e1 := HDD.out
  have e2 := HEE.out
  rcases hsplit with ⟨rfl, h9⟩ | ⟨rfl, h9⟩ | h9
  · have hca : ((CA2 : Int) == act) = true := by simp [h9]
    rw [if_pos ⟨rfl, h9⟩] at e1 e2
    subst e1 e2
    clear h9
    go_wp2_with (first
      | (go_at_call 24; ((with_reducible refine (HCC.out).mono ?_); rintro e w7 ⟨rfl, hb7⟩; have hx7 := row_on hb7 hx6 (lt_of_block hx6); have hr7 := row_on hb7 hr6 (lt_of_block hr6); have hv7 := row_on hb7 hv6 (lt_of_block hv6); obtain ⟨y7, d0, d1, d2, d3⟩ := row4 hx7; obtain ⟨v7, l0, l1, l2, l3⟩ := row4 hv7; have b7 := b6.trans (hb7.mono b6.size); obtain ⟨zc0, zc1, zc2⟩ := HZ.out.on b7 hxb))
      | (go_at_call 51; ((with_reducible refine (HT.out _).mono ?_); rintro e w8 ⟨rfl, hb8⟩; have hx8 := row_on hb8 hx7 (lt_of_block hx7); have hr8 := row_on hb8 hr7 (lt_of_block hr7); have hv8 := row_on hb8 hv7 (lt_of_block hv7); obtain ⟨y8, d0, d1, d2, d3⟩ := row4 hx8; obtain ⟨v8, l0, l1, l2, l3⟩ := row4 hv8; have b8 := b7.trans (hb8.mono b7.size)))
      | (((with_reducible refine Plan.store_lit 24 (.tmp 4) _ (w.heap.size + 1) ?_ hr8 ?_ ?_ ?_ ?_ ?_ ?_); rotate_left; (· rfl); (· rfl); (· exact dev_info); (· rfl); (· simp [Value.oneCell']); simp only [Act.put])))
    have b9 := below_setRow b8 (show w.heap.size ≤ w.heap.size + 1 by omega) #[.int .i64 size, .int .i64 op, .int .i64 act, .slice (some x) len cap]
    refine bodyPost_ret (Plan.results_cell_tmp (p := 4) (q := 5) rfl _ _ _ _ _ _ _ rfl (setRow_heap _ _ _ _ _ _ hr8) Try.underlying24 rfl dev_info) rfl ⟨some x, cap, rfl, (hz.on (Agree.below b9)).mono (fun b _ hb => .inl hb), b9⟩
  · have hca : ((CA2 : Int) == act) = true := by simp [h9]
    rw [if_neg (by simp)] at e1 e2
    subst e1 e2
    clear h9
    go_wp2_with (first
      | (go_at_call 24; ((with_reducible refine (HCC.out).mono ?_); rintro e w7 ⟨rfl, hb7⟩; have hx7 := row_on hb7 hx6 (lt_of_block hx6); have hr7 := row_on hb7 hr6 (lt_of_block hr6); have hv7 := row_on hb7 hv6 (lt_of_block hv6); obtain ⟨y7, d0, d1, d2, d3⟩ := row4 hx7; obtain ⟨v7, l0, l1, l2, l3⟩ := row4 hv7; have b7 := b6.trans (hb7.mono b6.size); obtain ⟨zc0, zc1, zc2⟩ := HZ.out.on b7 hxb))
      | (go_at_call 51; ((with_reducible refine (HT.out _).mono ?_); rintro e w8 ⟨rfl, hb8⟩; have hx8 := row_on hb8 hx7 (lt_of_block hx7); have hr8 := row_on hb8 hr7 (lt_of_block hr7); have hv8 := row_on hb8 hv7 (lt_of_block hv7); obtain ⟨y8, d0, d1, d2, d3⟩ := row4 hx8; obtain ⟨v8, l0, l1, l2, l3⟩ := row4 hv8; have b8 := b7.trans (hb8.mono b7.size)))
      | (((with_reducible refine Plan.store_lit 24 (.tmp 4) _ (w.heap.size + 1) ?_ hr8 ?_ ?_ ?_ ?_ ?_ ?_); rotate_left; (· rfl); (· rfl); (· exact dev_info); (· rfl); (· simp [Value.oneCell']); simp only [Act.put])))
    have b9 := below_setRow b8 (show w.heap.size ≤ w.heap.size + 1 by omega) #[.int .i64 size, .int .i64 op, .int .i64 act, .slice a2 len c2]
    have hz9 := (hz6.on (Agree.below (hb7.trans (hb8.mono hb7.size)))).on (Agree.row (plus_not hF (by omega) (by have := lt_of_block hr3; omega) : ¬ Plus F w3.heap.size (w.heap.size + 1)) #[.int .i64 size, .int .i64 op, .int .i64 act, .slice a2 len c2])
    refine bodyPost_ret (Plan.results_cell_tmp (p := 4) (q := 5) rfl _ _ _ _ _ _ _ rfl (setRow_heap _ _ _ _ _ _ hr8) Try.underlying24 rfl dev_info) rfl ⟨a2, c2, rfl, hz9.mono (fun b _ hb => hb.imp id (fun h => Nat.le_trans b3.size h)), b9⟩
  · have hca : ((CA2 : Int) == act) = false := by simp [h9]
    rw [if_neg (fun h => h9 h.2)] at e1 e2
    subst e1 e2
    go_wp2_with (first
      | (go_at_call 24; ((with_reducible refine (HCC.out).mono ?_); rintro e w7 ⟨rfl, hb7⟩; have hx7 := row_on hb7 hx6 (lt_of_block hx6); have hr7 := row_on hb7 hr6 (lt_of_block hr6); have hv7 := row_on hb7 hv6 (lt_of_block hv6); obtain ⟨y7, d0, d1, d2, d3⟩ := row4 hx7; obtain ⟨v7, l0, l1, l2, l3⟩ := row4 hv7; have b7 := b6.trans (hb7.mono b6.size); obtain ⟨zc0, zc1, zc2⟩ := HZ.out.on b7 hxb))
      | (go_at_call 51; ((with_reducible refine (HT.out _).mono ?_); rintro e w8 ⟨rfl, hb8⟩; have hx8 := row_on hb8 hx7 (lt_of_block hx7); have hr8 := row_on hb8 hr7 (lt_of_block hr7); have hv8 := row_on hb8 hv7 (lt_of_block hv7); obtain ⟨y8, d0, d1, d2, d3⟩ := row4 hx8; obtain ⟨v8, l0, l1, l2, l3⟩ := row4 hv8; have b8 := b7.trans (hb8.mono b7.size)))
      | (((with_reducible refine Plan.store_lit 24 (.tmp 4) _ (w.heap.size + 1) ?_ hr7 ?_ ?_ ?_ ?_ ?_ ?_); rotate_left; (· rfl); (· rfl); (· exact dev_info); (· rfl); (· simp [Value.oneCell']); simp only [Act.put])))
    have b9 := below_setRow b7 (show w.heap.size ≤ w.heap.size + 1 by omega) #[.int .i64 size, .int .i64 op, .int .i64 act, .slice a2 len c2]
    have hz9 := (hz6.on (Agree.below hb7)).on (Agree.row (plus_not hF (by omega) (by have := lt_of_block hr3; omega) : ¬ Plus F w3.heap.size (w.heap.size + 1)) #[.int .i64 size, .int .i64 op, .int .i64 act, .slice a2 len c2])
    refine bodyPost_ret (Plan.results_cell_tmp (p := 4) (q := 5) rfl _ _ _ _ _ _ _ rfl (setRow_heap _ _ _ _ _ _ hr7) Try.underlying24 rfl dev_info) rfl ⟨a2, c2, rfl, hz9.mono (fun b _ hb => hb.imp id (fun h => Nat.le_trans b3.size h)), b9⟩
theorem makeRoom_any (F : Nat → Prop) (D : Dev) (a : Option Addr) (len cap i : Nat) (w : World) (hF : ∀ b, F b → b < w.heap.size) (hz : ZonesIn w F a len cap D.zones) (hm : len ≤ 1000000) (hi : i < len) (hc : checkE D = 0) :
    Calls Try.prog 68 #[devV D a len cap, .int .i64 (i : Int)] w (DevPost w F len (roomR D i) (roomE D i)) := by
  obtain ⟨-, -, hco, hca⟩ := check_parts hc
  by_cases hO : (countO D.zones : Int) = D.maxOpen
  · have hO' : D.maxOpen ≤ countO D.zones := by omega
    by_cases hf : firstOpen D.zones = D.zones.length
    · have hE : roomE D i = 8 := by unfold roomE; rw [if_pos ⟨hO', hf⟩]
      have hR : roomR D i = D := by unfold roomR; rw [hE]; rfl
      rw [hE, hR]
      exact makeRoom_none F D a len cap i w hz hO hf
    · have hle := first_le D.zones
      have hcl : cleared D = withZ D (firstOpen D.zones) (shut (D.zones.getD (firstOpen D.zones) empty)) := by unfold cleared; rw [if_pos hO']
      have hy : D.zones[firstOpen D.zones]? = some (D.zones.getD (firstOpen D.zones) empty) := by
        rw [List.getD_eq_getElem?_getD, List.getElem?_eq_getElem (by omega)]; rfl
      have h2 := (closing_counts hy (first_eq _ _ hy)).2
      have h3 : (D.maxActive ≤ (countA (withZ D (firstOpen D.zones) (shut (D.zones.getD (firstOpen D.zones) empty))).zones : Int)) ↔ ((countA (withZ D (firstOpen D.zones) (shut (D.zones.getD (firstOpen D.zones) empty))).zones : Int) = D.maxActive) := by
        have : countA (withZ D (firstOpen D.zones) (shut (D.zones.getD (firstOpen D.zones) empty))).zones ≤ countA D.zones := h2
        omega
      have hE : roomE D i = if activeB (D.zones.getD i empty).state = false ∧ (countA (withZ D (firstOpen D.zones) (shut (D.zones.getD (firstOpen D.zones) empty))).zones : Int) = D.maxActive then 9 else 0 := by
        unfold roomE
        rw [if_neg (fun h => hf h.2), hcl]
        simp only [h3]
      have hR : roomR D i = if activeB (D.zones.getD i empty).state = false ∧ (countA (withZ D (firstOpen D.zones) (shut (D.zones.getD (firstOpen D.zones) empty))).zones : Int) = D.maxActive then D else withZ D (firstOpen D.zones) (shut (D.zones.getD (firstOpen D.zones) empty)) := by
        unfold roomR
        rw [hE, hcl]
        by_cases h : activeB (D.zones.getD i empty).state = false ∧ (countA (withZ D (firstOpen D.zones) (shut (D.zones.getD (firstOpen D.zones) empty))).zones : Int) = D.maxActive
        · rw [if_pos h, if_pos h, if_neg (by decide)]
        · rw [if_neg h, if_neg h, if_pos rfl]
      rw [hE, hR]
      exact makeRoom_clear F D a len cap i w hF hz hm hi hO (by omega)
  · have hO' : ¬ D.maxOpen ≤ countO D.zones := by omega
    have hcl : cleared D = D := by unfold cleared; rw [if_neg hO']
    have hE : roomE D i = if activeB (D.zones.getD i empty).state = false ∧ (countA D.zones : Int) = D.maxActive then 9 else 0 := by
      unfold roomE
      rw [if_neg (fun h => hO' h.1), hcl]
      have h3 : (D.maxActive ≤ (countA D.zones : Int)) ↔ ((countA D.zones : Int) = D.maxActive) := by omega
      simp only [h3]
    have hR : roomR D i = D := by
      unfold roomR
      rw [hcl]
      split <;> rfl
    rw [hE, hR]
    exact makeRoom_free F D a len cap i w hz hi hO
end Go.Proofs.Ytlmlmgegnnikeaa

/- The walks of the program's admit and Open. -/
namespace Go.Proofs.Ytlmlmgegnnikeaa
open Go.RowKit Plan ZnsMath

/-- what admit answers -/
def admE (D : Dev) (i : Nat) : Int := if stateAt D (i : Int) = 5 then 6 else if stateAt D (i : Int) = 4 then 7 else if openB (stateAt D (i : Int)) = true then 0 else roomE D i
def admR (D : Dev) (i : Nat) : Dev := if stateAt D (i : Int) = 5 then D else if stateAt D (i : Int) = 4 then D else if openB (stateAt D (i : Int)) = true then D else roomR D i
set_option maxHeartbeats 2000000 in
set_option maxRecDepth 20000 in
theorem admit_any (F : Nat → Prop) (D : Dev) (a : Option Addr) (len cap i : Nat) (w : World) (hF : ∀ b, F b → b < w.heap.size) (hz : ZonesIn w F a len cap D.zones) (hm : len ≤ 1000000) (hi : i < len) (hc : checkE D = 0) :
    Calls Try.prog 47 #[devV D a len cap, .int .i64 (i : Int)] w (DevPost w F len (admR D i) (admE D i)) := by
  have hiI : (i : Int) < (len : Int) := by omega
  obtain ⟨x, z, sa, sl, sc, rfl, hzk, hza, -⟩ := hz.zone i hi
  have hxb := zone_block hza
  have hrm := fun W (h : Below w.heap.size w W) => makeRoom_any F D (some x) len cap i W (fun b hb => Nat.lt_of_lt_of_le (hF b hb) h.size) (hz.on (Agree.below h)) hm hi hc
  have hop := fun W => isOpen_any z sa sl sc W
  have hA : Below w.heap.size w (((w.alloc (devRow D.size D.maxOpen D.maxActive (some x) len cap)).alloc (devRow 0 0 0 none 0 0)).alloc (zoneRow z.state z.durable sa sl sc)) := (((Below.refl _ _).alloc (Nat.le_refl _) _).alloc (by simp only [World.size_alloc]; omega) _).alloc (by simp only [World.size_alloc]; omega) _
  have hA2 : Below w.heap.size w ((w.alloc (devRow D.size D.maxOpen D.maxActive (some x) len cap)).alloc (devRow 0 0 0 none 0 0)) := ((Below.refl _ _).alloc (Nat.le_refl _) _).alloc (by simp) _
  have hza2 := hza.on hA2 hxb
  have hR : admR D i = if z.state = 5 then D else if z.state = 4 then D else if openB z.state = true then D else roomR D i := by unfold admR; rw [stateAt_of hzk]
  have hE : admE D i = if z.state = 5 then 6 else if z.state = 4 then 7 else if openB z.state = true then 0 else roomE D i := by unfold admE; rw [stateAt_of hzk]
  rw [hR, hE]
  clear hR hE
  unfold DevPost at hrm ⊢
  generalize roomR D i = RD at *
  generalize roomE D i = RE at *
  have HM := Lib.hid hrm
  have HA := Lib.hid hA
  clear hrm hA hA2 hza
  obtain ⟨size, op, act, Z⟩ := D
  obtain ⟨st, du, L⟩ := z
  try simp only at hop hza2 HA ⊢
  by_cases h5 : st = 5
  · rw [if_pos h5, if_pos h5]
    have e5 : (st == 5) = true := by simp [h5]
    obtain ⟨zc0, zc1, zc2⟩ := hza2
    clear h5 hop
    go_enter Try.func47, Try.ntmps47
    go_wp2_with fail
    have b4 : Below w.heap.size w (((w.alloc (devRow size op act (some x) len cap)).alloc (devRow size op act (some x) len cap)).alloc (zoneRow st du sa sl sc)) := (((Below.refl _ _).alloc (Nat.le_refl _) _).alloc (by simp only [World.size_alloc]; omega) _).alloc (by simp only [World.size_alloc]; omega) _
    exact bodyPost_ret (Plan.results_cell_tmp (p := 4) (q := 5) rfl _ _ _ _ _ _ _ rfl (row_al (heap_second _ _ _) _) Try.underlying24 rfl dev_info) rfl ⟨some x, cap, rfl, (hz.on (Agree.below b4)).mono (fun b _ hb => .inl hb), b4⟩
  rw [if_neg h5, if_neg h5]
  have e5 : (st == 5) = false := by simp [h5]
  by_cases h4 : st = 4
  · rw [if_pos h4, if_pos h4]
    have e4 : (st == 4) = true := by simp [h4]
    obtain ⟨zc0, zc1, zc2⟩ := hza2
    clear h5 hop h4
    go_enter Try.func47, Try.ntmps47
    go_wp2_with fail
    have b4 : Below w.heap.size w (((w.alloc (devRow size op act (some x) len cap)).alloc (devRow size op act (some x) len cap)).alloc (zoneRow st du sa sl sc)) := (((Below.refl _ _).alloc (Nat.le_refl _) _).alloc (by simp only [World.size_alloc]; omega) _).alloc (by simp only [World.size_alloc]; omega) _
    exact bodyPost_ret (Plan.results_cell_tmp (p := 4) (q := 5) rfl _ _ _ _ _ _ _ rfl (row_al (heap_second _ _ _) _) Try.underlying24 rfl dev_info) rfl ⟨some x, cap, rfl, (hz.on (Agree.below b4)).mono (fun b _ hb => .inl hb), b4⟩
  rw [if_neg h4, if_neg h4]
  have e4 : (st == 4) = false := by simp [h4]
  have HO := Lib.hid hop
  clear hop h4 h5
  cases ho : openB st with
  | true =>
    rw [if_pos rfl, if_pos rfl]
    rw [ho] at HO
    clear ho
    obtain ⟨zc0, zc1, zc2⟩ := hza2
    go_enter Try.func47, Try.ntmps47
    go_wp2_with (first
      | (go_at_call 50; ((with_reducible refine (HO.out _).mono ?_); rintro e w1 ⟨rfl, hb1⟩; have hx1 := row_on hb1 (row_al (heap_first2 w _ _) _) (by simp only [World.size_alloc]; omega); have hr1 := row_on hb1 (row_al (heap_second w _ _) _) (by simp only [World.size_alloc]; omega); obtain ⟨y1, d0, d1, d2, d3⟩ := row4 hx1; have b1 := HA.out.trans (hb1.mono (by simp only [World.size_alloc]; omega))))
      | (((with_reducible refine Plan.store_lit 24 (.tmp 4) _ (w.heap.size + 1) ?_ hr1 ?_ ?_ ?_ ?_ ?_ ?_); rotate_left; (· rfl); (· rfl); (· exact dev_info); (· rfl); (· simp [Value.oneCell']); simp only [Act.put])))
    have b4 := below_setRow b1 (show w.heap.size ≤ w.heap.size + 1 by omega) #[.int .i64 size, .int .i64 op, .int .i64 act, .slice (some x) len cap]
    refine bodyPost_ret (Plan.results_cell_tmp (p := 4) (q := 5) rfl _ _ _ _ _ _ _ rfl (setRow_heap _ _ _ _ _ _ hr1) Try.underlying24 rfl dev_info) rfl ⟨some x, cap, rfl, (hz.on (Agree.below b4)).mono (fun b _ hb => .inl hb), b4⟩
  | false =>
    rw [if_neg (by decide), if_neg (by decide)]
    rw [ho] at HO
    clear ho
    obtain ⟨zc0, zc1, zc2⟩ := hza2
    obtain ⟨s2, o2, t2, Z2⟩ := RD
    go_enter Try.func47, Try.ntmps47
    go_wp2_with (first
      | (go_at_call 50; ((with_reducible refine (HO.out _).mono ?_); rintro e w1 ⟨rfl, hb1⟩; have hx1 := row_on hb1 (row_al (heap_first2 w _ _) _) (by simp only [World.size_alloc]; omega); have hr1 := row_on hb1 (row_al (heap_second w _ _) _) (by simp only [World.size_alloc]; omega); obtain ⟨y1, d0, d1, d2, d3⟩ := row4 hx1; have b1 := HA.out.trans (hb1.mono (by simp only [World.size_alloc]; omega))))
      | (go_at_call 68; ((with_reducible refine (HM.out _ b1).mono ?_); rintro e w2 ⟨a2, c2, rfl, hz2, hb2⟩; have hr2 := row_on hb2 hr1 (lt_of_block hr1)))
      | (((with_reducible refine Plan.store_lit 24 (.tmp 4) _ (w.heap.size + 1) ?_ hr2 ?_ ?_ ?_ ?_ ?_ ?_); rotate_left; (· rfl); (· rfl); (· exact dev_info); (· rfl); (· simp [Value.oneCell']); simp only [Act.put])))
    have b2 := b1.trans (hb2.mono b1.size)
    have b4 := below_setRow b2 (show w.heap.size ≤ w.heap.size + 1 by omega) #[.int .i64 s2, .int .i64 o2, .int .i64 t2, .slice a2 len c2]
    have hz3 := hz2.on (Agree.row (plus_not hF (by omega) (by have := lt_of_block hr1; omega) : ¬ Plus F w1.heap.size (w.heap.size + 1)) #[.int .i64 s2, .int .i64 o2, .int .i64 t2, .slice a2 len c2])
    refine bodyPost_ret (Plan.results_cell_tmp (p := 4) (q := 5) rfl _ _ _ _ _ _ _ rfl (setRow_heap _ _ _ _ _ _ hr2) Try.underlying24 rfl dev_info) rfl ⟨a2, c2, rfl, hz3.mono (fun b _ hb => hb.imp id (fun h => Nat.le_trans b1.size h)), b4⟩
/-- making room leaves the zone for which it is made -/
theorem ready_at {D : Dev} {i : Nat} {z : Zone} (h : D.zones[i]? = some z) : (ready D (i : Int)).zones[i]? = some z := by
  unfold ready
  rw [stateAt_of h]
  cases ho : openB z.state with
  | true => rw [if_pos rfl]; exact h
  | false =>
    rw [if_neg (by decide), Int.toNat_natCast]
    unfold roomR
    split
    · unfold cleared
      split
      · unfold withZ
        by_cases hf : firstOpen D.zones = i
        · have := first_eq D.zones z (by rw [hf]; exact h)
          rw [this] at ho
          cases ho
        · simp only [List.getElem?_set_ne hf]
          exact h
      · exact h
    · exact h
theorem ready_size (D : Dev) (k : Int) : (ready D k).size = D.size := by
  unfold ready
  split
  · rfl
  · unfold roomR
    split
    · unfold cleared
      split <;> rfl
    · rfl
theorem admR_ready {D : Dev} {i : Nat} (h : admE D i = 0) : admR D i = ready D (i : Int) := by
  unfold admE at h
  unfold admR ready
  by_cases h5 : stateAt D (i : Int) = 5
  · rw [if_pos h5] at h; cases h
  · rw [if_neg h5] at h ⊢
    by_cases h4 : stateAt D (i : Int) = 4
    · rw [if_pos h4] at h; cases h
    · rw [if_neg h4, Int.toNat_natCast]
end Go.Proofs.Ytlmlmgegnnikeaa

/- The walk of the program's Open. -/
namespace Go.Proofs.Ytlmlmgegnnikeaa
open Go.RowKit Plan ZnsMath

set_option maxHeartbeats 2000000 in
set_option maxRecDepth 20000 in
theorem open_no (F : Nat → Prop) (D : Dev) (a : Option Addr) (len cap i : Nat) (w : World) (hF : ∀ b, F b → b < w.heap.size) (hz : ZonesIn w F a len cap D.zones) (hm : len ≤ 1000000) (hi : i < len) (hc : checkE D = 0) (hE : admE D i ≠ 0) :
    Calls Try.prog 31 #[devV D a len cap, .int .i64 (i : Int)] w (DevPost w F len D (admE D i)) := by
  have hl := hz.is.length
  obtain ⟨x, z, sa, sl, sc, rfl, hzk, hza, hzs⟩ := hz.zone i hi
  have hxb := zone_block hza
  have hfd := fun W (h : Below w.heap.size w W) => find_ok D x len cap i z sa sl sc W (hz.on (Agree.below h)).is hi hc (hza.on h hxb)
  have had := fun W (h : Below w.heap.size w W) => admit_any F D (some x) len cap i W (fun b hb => Nat.lt_of_lt_of_le (hF b hb) h.size) (hz.on (Agree.below h)) hm hi hc
  have hA : Below w.heap.size w ((w.alloc (devRow D.size D.maxOpen D.maxActive (some x) len cap)).alloc (devRow 0 0 0 none 0 0)) := ((Below.refl _ _).alloc (Nat.le_refl _) _).alloc (by simp) _
  unfold DevPost at had ⊢
  generalize admR D i = RD at *
  generalize admE D i = RE at *
  have hE1 : (RE != 0) = true := by simp [hE]
  have HK := Lib.hid hfd
  have HM := Lib.hid had
  have HA := Lib.hid hA
  clear hfd had hA hza hzs hE
  obtain ⟨size, op, act, Z⟩ := D
  obtain ⟨st, du, L⟩ := z
  obtain ⟨s2, o2, t2, Z2⟩ := RD
  go_enter Try.func31, Try.ntmps31
  go_wp2_with (first
    | (go_at_call 46; ((with_reducible refine (HK.out _ HA.out).mono ?_); rintro e w1 ⟨rfl, hb1⟩; have hx1 := row_al (row_on hb1 (heap_first2 w _ _) (by simp only [World.size_alloc]; omega)) (zoneRow st du sa sl sc); have hr1 := row_al (row_on hb1 (heap_second w _ _) (by simp only [World.size_alloc]; omega)) (zoneRow st du sa sl sc); obtain ⟨y0, d0, d1, d2, d3⟩ := row4 (row_on hb1 (heap_first2 w _ _) (by simp only [World.size_alloc]; omega)); obtain ⟨y1, f0, f1, f2, f3⟩ := row4 hx1; have hq1 := heap_alloc_new w1 (zoneRow st du sa sl sc); obtain ⟨yq, g0, g1, g2⟩ := row3 hq1; have b0 := HA.out.trans (hb1.mono (by simp only [World.size_alloc]; omega)); have b1 := b0.alloc b0.size (zoneRow st du sa sl sc)))
    | (go_at_call 47; ((with_reducible refine (HM.out _ b1).mono ?_); rintro e w2 ⟨a2, c2, rfl, hz2, hb2⟩; have hx2 := row_on hb2 hx1 (lt_of_block hx1); have hr2 := row_on hb2 hr1 (lt_of_block hr1); have hq2 := row_on hb2 hq1 (lt_of_block hq1); obtain ⟨y2, f0, f1, f2, f3⟩ := row4 hx2; obtain ⟨yq2, g0, g1, g2⟩ := row3 hq2; have b2 := b1.trans (hb2.mono b1.size); have hx2' := row_al hx2 (devRow s2 o2 t2 a2 len c2); have hr2' := row_al hr2 (devRow s2 o2 t2 a2 len c2); obtain ⟨y2', d0, d1, d2, d3⟩ := row4 hx2'))
    | (((with_reducible refine Plan.store_lit 24 (.tmp 4) _ (w.heap.size + 1) ?_ hr2' ?_ ?_ ?_ ?_ ?_ ?_); rotate_left; (· rfl); (· rfl); (· exact dev_info); (· rfl); (· simp [Value.oneCell']); simp only [Act.put])))
  have b4 := below_setRow (b2.alloc b2.size (devRow s2 o2 t2 a2 len c2)) (show w.heap.size ≤ w.heap.size + 1 by omega) #[.int .i64 size, .int .i64 op, .int .i64 act, .slice (some x) len cap]
  refine bodyPost_ret (Plan.results_cell_tmp (p := 4) (q := 5) rfl _ _ _ _ _ _ _ rfl (setRow_heap _ _ _ _ _ _ hr2') Try.underlying24 rfl dev_info) rfl ⟨some x, cap, rfl, (hz.on (Agree.below b4)).mono (fun b _ hb => .inl hb), b4⟩
set_option maxHeartbeats 2000000 in
set_option maxRecDepth 20000 in
theorem open_ok (F : Nat → Prop) (D : Dev) (a : Option Addr) (len cap i : Nat) (w : World) (hF : ∀ b, F b → b < w.heap.size) (hz : ZonesIn w F a len cap D.zones) (hm : len ≤ 1000000) (hi : i < len) (hc : checkE D = 0) (hE : admE D i = 0) :
    Calls Try.prog 31 #[devV D a len cap, .int .i64 (i : Int)] w (DevPost w F len (withZ (ready D (i : Int)) i (held (D.zones.getD i empty))) 0) := by
  have hl := hz.is.length
  obtain ⟨x, z, sa, sl, sc, rfl, hzk, hza, hzs⟩ := hz.zone i hi
  have hxb := zone_block hza
  have hfd := fun W (h : Below w.heap.size w W) => find_ok D x len cap i z sa sl sc W (hz.on (Agree.below h)).is hi hc (hza.on h hxb)
  have had := fun W (h : Below w.heap.size w W) => admit_any F D (some x) len cap i W (fun b hb => Nat.lt_of_lt_of_le (hF b hb) h.size) (hz.on (Agree.below h)) hm hi hc
  have hA : Below w.heap.size w ((w.alloc (devRow D.size D.maxOpen D.maxActive (some x) len cap)).alloc (devRow 0 0 0 none 0 0)) := ((Below.refl _ _).alloc (Nat.le_refl _) _).alloc (by simp) _
  rw [getD_of hzk, ← admR_ready hE]
  rw [hE] at had
  unfold DevPost at had ⊢
  generalize admR D i = RD at *
  have HK := Lib.hid hfd
  have HM := Lib.hid had
  have HA := Lib.hid hA
  have HS := Lib.hid hzs
  clear hfd had hA hza hzs hE
  obtain ⟨size, op, act, Z⟩ := D
  obtain ⟨st, du, L⟩ := z
  obtain ⟨s2, o2, t2, Z2⟩ := RD
  go_enter Try.func31, Try.ntmps31
  go_wp2_with (first
    | (go_at_call 46; ((with_reducible refine (HK.out _ HA.out).mono ?_); rintro e w1 ⟨rfl, hb1⟩; have hx1 := row_al (row_on hb1 (heap_first2 w _ _) (by simp only [World.size_alloc]; omega)) (zoneRow st du sa sl sc); have hr1 := row_al (row_on hb1 (heap_second w _ _) (by simp only [World.size_alloc]; omega)) (zoneRow st du sa sl sc); obtain ⟨y0, d0, d1, d2, d3⟩ := row4 (row_on hb1 (heap_first2 w _ _) (by simp only [World.size_alloc]; omega)); obtain ⟨y1, f0, f1, f2, f3⟩ := row4 hx1; have hq1 := heap_alloc_new w1 (zoneRow st du sa sl sc); obtain ⟨yq, g0, g1, g2⟩ := row3 hq1; have b0 := HA.out.trans (hb1.mono (by simp only [World.size_alloc]; omega)); have b1 := b0.alloc b0.size (zoneRow st du sa sl sc)))
    | (go_at_call 47; ((with_reducible refine (HM.out _ b1).mono ?_); rintro e w2 ⟨a2, c2, rfl, hz2, hb2⟩; have hx2 := row_on hb2 hx1 (lt_of_block hx1); have hr2 := row_on hb2 hr1 (lt_of_block hr1); have hq2 := row_on hb2 hq1 (lt_of_block hq1); obtain ⟨y2, f0, f1, f2, f3⟩ := row4 hx2; obtain ⟨yq2, g0, g1, g2⟩ := row3 hq2; have b2 := b1.trans (hb2.mono b1.size); have gf0 := row_free hq2 0))
    | (go_at_call 48; have hlt1 := lt_of_block (row_on hb1 (heap_second w _ _) (by simp only [World.size_alloc]; omega)); have bc := b2.setCell (show w.heap.size ≤ (⟨w1.heap.size, 0, none⟩ : Addr).block from b0.size) (.int .i64 2); have b3 := bc.alloc bc.size (devRow s2 o2 t2 a2 len c2); have hz3 := (hz2.on (Agree.setCell (p := ⟨w1.heap.size, 0, none⟩) (plus_not hF b0.size (by simp only [World.size_alloc]; omega) : ¬ Plus F (w1.alloc (zoneRow st du sa sl sc)).heap.size w1.heap.size) (.int .i64 2))).on (Agree.below ((Below.refl _ _).alloc (Nat.le_refl _) (devRow s2 o2 t2 a2 len c2))); have hr3 := row_al ((Below.heap_setCell w2 ⟨w1.heap.size, 0, none⟩ (.int .i64 2) (w.heap.size + 1) (by show w.heap.size + 1 ≠ w1.heap.size; omega)).trans hr2) (devRow s2 o2 t2 a2 len c2); (with_reducible refine (pwith_from (Plus F (w1.alloc (zoneRow st du sa sl sc)).heap.size) ⟨s2, o2, t2, Z2⟩ a2 len c2 i 2 du L sa sl sc _ hz3 hi hm ((HS.out.on (Agree.below b3)).mono (fun _ _ h => .inl h))).mono ?_); rintro e w4 ⟨a4, c4, rfl, hz4, hb4⟩; have hr4 := row_on hb4 hr3 (lt_of_block hr3))
    | (((with_reducible refine Plan.store_lit 24 (.tmp 4) _ (w.heap.size + 1) ?_ hr4 ?_ ?_ ?_ ?_ ?_ ?_); rotate_left; (· rfl); (· rfl); (· exact dev_info); (· rfl); (· simp [Value.oneCell']); simp only [Act.put])))
  have n3 := b3.size
  have hz5 := hz4.on (Agree.row (by
    rintro (h | h)
    · exact plus_not hF (by omega) (by simp only [World.size_alloc]; omega) h
    · have := lt_of_block hr3; omega : ¬ Plus (Plus F (w1.alloc (zoneRow st du sa sl sc)).heap.size) ((w2.setCell ⟨w1.heap.size, 0, none⟩ (.int .i64 2)).alloc (devRow s2 o2 t2 a2 len c2)).heap.size (w.heap.size + 1)) #[.int .i64 s2, .int .i64 o2, .int .i64 t2, .slice a4 len c4])
  refine bodyPost_ret (Plan.results_cell_tmp (p := 4) (q := 5) rfl _ _ _ _ _ _ _ rfl (setRow_heap _ _ _ _ _ _ hr4) Try.underlying24 rfl dev_info) rfl ⟨a4, c4, rfl, hz5.mono ?_, below_setRow (b3.trans (hb4.mono b3.size)) (by omega) _⟩
  rintro b - ((h | h) | h)
  · exact .inl h
  · exact .inr (Nat.le_trans b1.size h)
  · exact .inr (Nat.le_trans n3 h)
theorem open_any (F : Nat → Prop) (D : Dev) (a : Option Addr) (len cap : Nat) (k : Int) (w : World) (hF : ∀ b, F b → b < w.heap.size) (hz : ZonesIn w F a len cap D.zones) (hm : len ≤ 1000000) :
    Calls Try.prog 31 #[devV D a len cap, .int .i64 k] w (DevPost w F len (openR D k) (openE D k)) := by
  by_cases hE : zoneE D k = 0
  · obtain ⟨hc, h1, h2⟩ := zoneE_of hE
    obtain ⟨i, rfl⟩ : ∃ i : Nat, k = (i : Int) := ⟨k.toNat, by omega⟩
    have hi : i < len := by rw [hz.is.length] at h2; omega
    have he : openE D (i : Int) = admE D i := by
      unfold openE beginE admE
      by_cases h5 : stateAt D (i : Int) = 5
      · simp [hE, h5]
      · simp [hE, h5]
    by_cases ha : admE D i = 0
    · have hr : openR D (i : Int) = withZ (ready D (i : Int)) i (held (D.zones.getD i empty)) := by
        obtain ⟨x, z, sa, sl, sc, -, hzk, -, -⟩ := hz.zone i hi
        unfold openR
        rw [he, if_pos ha, Int.toNat_natCast, getD_of (ready_at hzk), getD_of hzk]
      rw [he, hr, ha]
      exact open_ok F D a len cap i w hF hz hm hi hc ha
    · have hr : openR D (i : Int) = D := by unfold openR; rw [he, if_neg ha]
      rw [he, hr]
      exact open_no F D a len cap i w hF hz hm hi hc ha
  · have hb : beginE D k = zoneE D k := by simp [beginE, hE]
    have he : openE D k = zoneE D k := by simp [openE, hb, hE]
    rw [show openR D k = D by simp [openR, he, hE], he]
    exact open_err F D a len cap k w hz hE
end Go.Proofs.Ytlmlmgegnnikeaa

/- The walk of the program's grown: a zone with one sector more. -/
namespace Go.Proofs.Ytlmlmgegnnikeaa
open Go.RowKit Plan ZnsMath

set_option maxHeartbeats 2000000 in
set_option maxRecDepth 20000 in
theorem grown_any (F : Nat → Prop) (z : Zone) (s : ByteArray) (size : Int) (sa : Option Addr) (sl sc : Nat) (w : World) (hs : StrsIn w F sa sl sc z.sectors) (hm : sl ≤ 1000000) (hss : s.size ≤ maxLen) :
    Calls Try.prog 49 #[zoneV z sa sl sc, .string s, .int .i64 size] w fun e w' => ∃ g c, e = .returned (zoneV (appended z s size) (some ⟨g, 0, none⟩) (sl + 1) c) ∧ StrsIn w' (Plus F w.heap.size) (some ⟨g, 0, none⟩) (sl + 1) c (z.sectors ++ [s]) ∧ Below w.heap.size w w' := by
  obtain ⟨hcl, hcm, hcn⟩ := hs.1.cap_le
  have hsl := hs.1.length
  have hsm := strs_small hs.1
  obtain ⟨i1, hi1, hy0, hy1, hy2⟩ := info_parts str_info
  have hcp := fun W => clip_any sa sl sc W hcl
  have hA : Below w.heap.size w (((w.alloc (zoneRow z.state z.durable sa sl sc)).alloc (zoneRow 0 0 none 0 0)).alloc (.cells #[.string s] 9)) := (((Below.refl _ _).alloc (Nat.le_refl _) _).alloc (by simp only [World.size_alloc]; omega) _).alloc (by simp only [World.size_alloc]; omega) _
  have hsrc : ∀ b, sa = some b → ∀ j u, (strs z.sectors)[j]? = some u → (((w.alloc (zoneRow z.state z.durable sa sl sc)).alloc (zoneRow 0 0 none 0 0)).alloc (.cells #[.string s] 9)).cell? (b.add j) = some u := by
    rintro b rfl
    exact strs_news (hs.1.on hA (Nat.le_refl _))
  have r0 := row_al (heap_first2 w (zoneRow z.state z.durable sa sl sc) (zoneRow 0 0 none 0 0)) (.cells #[.string s] 9)
  have r1 := row_al (heap_second w (zoneRow z.state z.durable sa sl sc) (zoneRow 0 0 none 0 0)) (.cells #[.string s] 9)
  have hone := one_cell (w := (w.alloc (zoneRow z.state z.durable sa sl sc)).alloc (zoneRow 0 0 none 0 0)) (H := w.heap.size + 1 + 1) (by simp only [World.size_alloc]) s
  have HC := Lib.hid hcp
  have HA := Lib.hid hA
  have HS := Lib.hid hsrc
  have R0 := Lib.hid r0
  have R1 := Lib.hid r1
  have HO := Lib.hid hone
  have HL := Lib.hid hs
  clear hcp hA hsrc r0 r1 hone hs
  have hsm : ∀ t ∈ z.sectors ++ [s], t.size ≤ maxLen := by
    intro t ht
    rcases List.mem_append.1 ht with h | h
    · exact hsm t h
    · obtain rfl : t = s := by simpa using h
      exact hss
  obtain ⟨st, du, L⟩ := z
  try simp only at hsl hsm
  unfold appended
  try simp only
  rw [hsl]
  by_cases hsz : (sl : Int) + 1 = size
  · rw [if_pos hsz]
    obtain rfl : size = ((sl + 1 : Nat) : Int) := by omega
    clear hsz
    go_enter Try.func49, Try.ntmps49
    go_wp2_with (first
      | (go_at_call 69; ((with_reducible refine (HC.out _).mono ?_); rintro e w1 ⟨rfl, rfl⟩))
      | (at_builtin; refine wpList_append_grows _ rfl _ _ 46 rfl 9 i1 _ 1 16 Try.underlying46 hi1 hy0 hy1 hy2 rfl (by decide) sa sl sl (strs L) rfl (fun e => ⟨(hcn e).1, (hcn e).1⟩) (by rw [strs_length]; simpa using hsl) HS.out ⟨w.heap.size + 1 + 1, 0, none⟩ 1 1 [.string s] rfl rfl HO.out (by simp [Value.oneCell']) (by omega) (by unfold maxLen; omega) (by omega) ?_; intro v7 w7 hown7 hgrow7; obtain ⟨g7, c7, rfl, hg7, hl7⟩ := owned_some hown7 (by omega); simp only [World.size_alloc] at hg7; have hx7 := (hgrow7.block _ (lt_of_block R0.out) (by simp)).trans R0.out; have hr7 := (hgrow7.block _ (lt_of_block R1.out) (by simp)).trans R1.out; have b7 := HA.out.grown hgrow7 (by simp only [World.size_alloc]; omega) (fun k hk => by cases hk); obtain ⟨y7, q0, q1, q2⟩ := row3 hx7; have f7 := row_free hx7 2; have S7 := Lib.hid (strsIn_own (F := fun b => b = g7) (L := L ++ [s]) (by rw [strs_app]; exact hown7) hsm rfl); clear hown7 hgrow7)
      | (go_at_call 56; have hr8 := (Below.heap_setCell w7 ⟨w.heap.size, 2, none⟩ (.slice (some ⟨g7, 0, none⟩) (sl + 1) c7) (w.heap.size + 1) (by show w.heap.size + 1 ≠ w.heap.size; omega)).trans hr7; have b8 := b7.setCell (show w.heap.size ≤ (⟨w.heap.size, 2, none⟩ : Addr).block from Nat.le_refl _) (.slice (some ⟨g7, 0, none⟩) (sl + 1) c7); have S8 := S7.out.on (Agree.setCell (p := ⟨w.heap.size, 2, none⟩) (show ¬ w.heap.size = g7 by omega) (.slice (some ⟨g7, 0, none⟩) (sl + 1) c7)); ((with_reducible refine (full_any ⟨st, du, L⟩ (some ⟨g7, 0, none⟩) (sl + 1) c7 _).mono ?_); rintro e w9 ⟨rfl, hb9⟩; have hr9 := row_on hb9 hr8 (lt_of_block hr8); have b9 := b8.trans (hb9.mono b8.size)))
      | ((with_reducible refine Plan.store_lit 48 (.tmp 6) _ (w.heap.size + 1) ?_ hr9 ?_ ?_ ?_ ?_ ?_ ?_); rotate_left; (· rfl); (· rfl); (· exact zone_info); (· rfl); (· simp [Value.oneCell']); simp only [Act.put]))
    have S10 := (S8.on (Agree.below hb9)).on (Agree.row (F := fun b => b = g7) (r := w.heap.size + 1) (show ¬ w.heap.size + 1 = g7 by omega) #[.int .i64 4, .int .i64 ((sl + 1 : Nat) : Int), .slice (some ⟨g7, 0, none⟩) (sl + 1) c7])
    refine bodyPost_ret (results_cell_row rfl _ _ _ _ _ _ _ rfl (setRow_heap _ _ _ _ _ _ hr9) Try.underlying48 rfl zone_info) rfl ⟨g7, c7, rfl, S10.mono (fun b _ hb => .inr (by omega)), below_setRow b9 (by omega) _⟩
  · rw [if_neg hsz]
    have hne : (((sl : Int) + 1) == size) = false := by simp [hsz]
    have hne2 : ((((sl + 1 : Nat) : Int)) == size) = false := by simp; omega
    have HP := fun W g c => isOpen_any ⟨st, du, L⟩ (some ⟨g, 0, none⟩) (sl + 1) c W
    try simp only at HP
    have HP := Lib.hid HP
    clear hsz
    cases ho : openB st with
    | true =>
      rw [if_pos rfl]
      rw [ho] at HP
      clear ho
      go_enter Try.func49, Try.ntmps49
      go_wp2_with (first
        | (go_at_call 69; ((with_reducible refine (HC.out _).mono ?_); rintro e w1 ⟨rfl, rfl⟩))
        | (at_builtin; refine wpList_append_grows _ rfl _ _ 46 rfl 9 i1 _ 1 16 Try.underlying46 hi1 hy0 hy1 hy2 rfl (by decide) sa sl sl (strs L) rfl (fun e => ⟨(hcn e).1, (hcn e).1⟩) (by rw [strs_length]; simpa using hsl) HS.out ⟨w.heap.size + 1 + 1, 0, none⟩ 1 1 [.string s] rfl rfl HO.out (by simp [Value.oneCell']) (by omega) (by unfold maxLen; omega) (by omega) ?_; intro v7 w7 hown7 hgrow7; obtain ⟨g7, c7, rfl, hg7, hl7⟩ := owned_some hown7 (by omega); simp only [World.size_alloc] at hg7; have hx7 := (hgrow7.block _ (lt_of_block R0.out) (by simp)).trans R0.out; have hr7 := (hgrow7.block _ (lt_of_block R1.out) (by simp)).trans R1.out; have b7 := HA.out.grown hgrow7 (by simp only [World.size_alloc]; omega) (fun k hk => by cases hk); obtain ⟨y7, q0, q1, q2⟩ := row3 hx7; have f7 := row_free hx7 2; have S7 := Lib.hid (strsIn_own (F := fun b => b = g7) (L := L ++ [s]) (by rw [strs_app]; exact hown7) hsm rfl); clear hown7 hgrow7)
        | (go_at_call 50; have hr8 := (Below.heap_setCell w7 ⟨w.heap.size, 2, none⟩ (.slice (some ⟨g7, 0, none⟩) (sl + 1) c7) (w.heap.size + 1) (by show w.heap.size + 1 ≠ w.heap.size; omega)).trans hr7; have b8 := b7.setCell (show w.heap.size ≤ (⟨w.heap.size, 2, none⟩ : Addr).block from Nat.le_refl _) (.slice (some ⟨g7, 0, none⟩) (sl + 1) c7); have S8 := S7.out.on (Agree.setCell (p := ⟨w.heap.size, 2, none⟩) (show ¬ w.heap.size = g7 by omega) (.slice (some ⟨g7, 0, none⟩) (sl + 1) c7)); have hx8 : (w7.setCell ⟨w.heap.size, 2, none⟩ (.slice (some ⟨g7, 0, none⟩) (sl + 1) c7)).heap[w.heap.size]? = some (zoneRow st du (some ⟨g7, 0, none⟩) (sl + 1) c7) := setCell_row hx7 2 (.slice (some ⟨g7, 0, none⟩) (sl + 1) c7); ((with_reducible refine (HP.out _ g7 c7).mono ?_); rintro e w9 ⟨rfl, hb9⟩; have hr9 := row_on hb9 hr8 (lt_of_block hr8); have hx9 := row_on hb9 hx8 (lt_of_block hx8); obtain ⟨y9, k0, k1, k2⟩ := row3 hx9; have b9 := b8.trans (hb9.mono b8.size)))
        | ((with_reducible refine Plan.store_lit 48 (.tmp 6) _ (w.heap.size + 1) ?_ hr9 ?_ ?_ ?_ ?_ ?_ ?_); rotate_left; (· rfl); (· rfl); (· exact zone_info); (· rfl); (· simp [Value.oneCell']); simp only [Act.put]))
      have S10 := (S8.on (Agree.below hb9)).on (Agree.row (F := fun b => b = g7) (r := w.heap.size + 1) (show ¬ w.heap.size + 1 = g7 by omega) #[.int .i64 st, .int .i64 du, .slice (some ⟨g7, 0, none⟩) (sl + 1) c7])
      refine bodyPost_ret (results_cell_row rfl _ _ _ _ _ _ _ rfl (setRow_heap _ _ _ _ _ _ hr9) Try.underlying48 rfl zone_info) rfl ⟨g7, c7, rfl, S10.mono (fun b _ hb => .inr (by omega)), below_setRow b9 (by omega) _⟩
    | false =>
      rw [if_neg (by decide)]
      rw [ho] at HP
      clear ho
      go_enter Try.func49, Try.ntmps49
      go_wp2_with (first
        | (go_at_call 69; ((with_reducible refine (HC.out _).mono ?_); rintro e w1 ⟨rfl, rfl⟩))
        | (at_builtin; refine wpList_append_grows _ rfl _ _ 46 rfl 9 i1 _ 1 16 Try.underlying46 hi1 hy0 hy1 hy2 rfl (by decide) sa sl sl (strs L) rfl (fun e => ⟨(hcn e).1, (hcn e).1⟩) (by rw [strs_length]; simpa using hsl) HS.out ⟨w.heap.size + 1 + 1, 0, none⟩ 1 1 [.string s] rfl rfl HO.out (by simp [Value.oneCell']) (by omega) (by unfold maxLen; omega) (by omega) ?_; intro v7 w7 hown7 hgrow7; obtain ⟨g7, c7, rfl, hg7, hl7⟩ := owned_some hown7 (by omega); simp only [World.size_alloc] at hg7; have hx7 := (hgrow7.block _ (lt_of_block R0.out) (by simp)).trans R0.out; have hr7 := (hgrow7.block _ (lt_of_block R1.out) (by simp)).trans R1.out; have b7 := HA.out.grown hgrow7 (by simp only [World.size_alloc]; omega) (fun k hk => by cases hk); obtain ⟨y7, q0, q1, q2⟩ := row3 hx7; have f7 := row_free hx7 2; have S7 := Lib.hid (strsIn_own (F := fun b => b = g7) (L := L ++ [s]) (by rw [strs_app]; exact hown7) hsm rfl); clear hown7 hgrow7)
        | (go_at_call 50; have hr8 := (Below.heap_setCell w7 ⟨w.heap.size, 2, none⟩ (.slice (some ⟨g7, 0, none⟩) (sl + 1) c7) (w.heap.size + 1) (by show w.heap.size + 1 ≠ w.heap.size; omega)).trans hr7; have b8 := b7.setCell (show w.heap.size ≤ (⟨w.heap.size, 2, none⟩ : Addr).block from Nat.le_refl _) (.slice (some ⟨g7, 0, none⟩) (sl + 1) c7); have S8 := S7.out.on (Agree.setCell (p := ⟨w.heap.size, 2, none⟩) (show ¬ w.heap.size = g7 by omega) (.slice (some ⟨g7, 0, none⟩) (sl + 1) c7)); have hx8 : (w7.setCell ⟨w.heap.size, 2, none⟩ (.slice (some ⟨g7, 0, none⟩) (sl + 1) c7)).heap[w.heap.size]? = some (zoneRow st du (some ⟨g7, 0, none⟩) (sl + 1) c7) := setCell_row hx7 2 (.slice (some ⟨g7, 0, none⟩) (sl + 1) c7); ((with_reducible refine (HP.out _ g7 c7).mono ?_); rintro e w9 ⟨rfl, hb9⟩; have hr9 := row_on hb9 hr8 (lt_of_block hr8); have hx9 := row_on hb9 hx8 (lt_of_block hx8); obtain ⟨y9, k0, k1, k2⟩ := row3 hx9; have f9 := row_free hx9 0; have b9 := b8.trans (hb9.mono b8.size); have hr10 := (Below.heap_setCell w9 ⟨w.heap.size, 0, none⟩ (.int .i64 1) (w.heap.size + 1) (by show w.heap.size + 1 ≠ w.heap.size; omega)).trans hr9))
        | ((with_reducible refine Plan.store_lit 48 (.tmp 6) _ (w.heap.size + 1) ?_ hr10 ?_ ?_ ?_ ?_ ?_ ?_); rotate_left; (· rfl); (· rfl); (· exact zone_info); (· rfl); (· simp [Value.oneCell']); simp only [Act.put]))
      have b10 := b9.setCell (show w.heap.size ≤ (⟨w.heap.size, 0, none⟩ : Addr).block from Nat.le_refl _) (.int .i64 1)
      have S10 := ((S8.on (Agree.below hb9)).on (Agree.setCell (F := fun b => b = g7) (p := ⟨w.heap.size, 0, none⟩) (show ¬ w.heap.size = g7 by omega) (.int .i64 1))).on (Agree.row (F := fun b => b = g7) (r := w.heap.size + 1) (show ¬ w.heap.size + 1 = g7 by omega) #[.int .i64 1, .int .i64 du, .slice (some ⟨g7, 0, none⟩) (sl + 1) c7])
      refine bodyPost_ret (results_cell_row rfl _ _ _ _ _ _ _ rfl (setRow_heap _ _ _ _ _ _ hr10) Try.underlying48 rfl zone_info) rfl ⟨g7, c7, rfl, S10.mono (fun b _ hb => .inr (by omega)), below_setRow b10 (by omega) _⟩
end Go.Proofs.Ytlmlmgegnnikeaa

/- The walk of the program's Append. -/
namespace Go.Proofs.Ytlmlmgegnnikeaa
open Go.RowKit Plan ZnsMath

theorem appended_sectors (z : Zone) (s : ByteArray) (size : Int) : (appended z s size).sectors = z.sectors ++ [s] := by
  unfold appended
  split <;> rfl
set_option maxHeartbeats 2000000 in
set_option maxRecDepth 20000 in
theorem append_err (F : Nat → Prop) (D : Dev) (a : Option Addr) (len cap : Nat) (k : Int) (s : ByteArray) (w : World) (hz : ZonesIn w F a len cap D.zones) (hE : zoneE D k ≠ 0) :
    Calls Try.prog 23 #[devV D a len cap, .int .i64 k, .string s] w (AppPost w F len D 0 (zoneE D k)) := by
  have hfd := fun W (h : Below w.heap.size w W) => find_no D a len cap k W (hz.on (Agree.below h)).is hE
  have hA : Below w.heap.size w ((w.alloc (devRow D.size D.maxOpen D.maxActive a len cap)).alloc (devRow 0 0 0 none 0 0)) := ((Below.refl _ _).alloc (Nat.le_refl _) _).alloc (by simp) _
  unfold AppPost
  generalize zoneE D k = E at *
  have hE1 : (E != 0) = true := by simp [hE]
  have HK := Lib.hid hfd
  have HA := Lib.hid hA
  clear hfd hA hE
  obtain ⟨size, op, act, Z⟩ := D
  go_enter Try.func23, Try.ntmps23
  go_wp2_with (first
    | (go_at_call 46; ((with_reducible refine (HK.out _ HA.out).mono ?_); rintro e w1 ⟨rfl, hb1⟩; have hx1 := row_al (row_on hb1 (heap_first2 w _ _) (by simp only [World.size_alloc]; omega)) (zoneRow 0 0 none 0 0); have hr1 := row_al (row_on hb1 (heap_second w _ _) (by simp only [World.size_alloc]; omega)) (zoneRow 0 0 none 0 0); obtain ⟨y0, d0, d1, d2, d3⟩ := row4 (row_on hb1 (heap_first2 w _ _) (by simp only [World.size_alloc]; omega)); obtain ⟨y1, f0, f1, f2, f3⟩ := row4 hx1; have hq1 := heap_alloc_new w1 (zoneRow 0 0 none 0 0); obtain ⟨yq, g0, g1, g2⟩ := row3 hq1; have b0 := HA.out.trans (hb1.mono (by simp only [World.size_alloc]; omega)); have b1 := b0.alloc b0.size (zoneRow 0 0 none 0 0)))
    | (((with_reducible refine Plan.store_lit 24 (.tmp 6) _ (w.heap.size + 1) ?_ hr1 ?_ ?_ ?_ ?_ ?_ ?_); rotate_left; (· rfl); (· rfl); (· exact dev_info); (· rfl); (· simp [Value.oneCell']); simp only [Act.put])))
  have b2 := below_setRow b1 (show w.heap.size ≤ w.heap.size + 1 by omega) #[.int .i64 size, .int .i64 op, .int .i64 act, .slice a len cap]
  refine bodyPost_ret (results_cell_tmp2 (p := 6) (q := 7) (r := 8) rfl _ _ _ _ _ _ _ rfl (setRow_heap _ _ _ _ _ _ hr1) Try.underlying24 rfl dev_info) rfl ⟨a, cap, rfl, (hz.on (Agree.below b2)).mono (fun b _ hb => .inl hb), b2⟩
set_option maxHeartbeats 2000000 in
set_option maxRecDepth 20000 in
theorem append_size (F : Nat → Prop) (D : Dev) (a : Option Addr) (len cap i : Nat) (s : ByteArray) (w : World) (hz : ZonesIn w F a len cap D.zones) (hi : i < len) (hc : checkE D = 0) (hs : s.size ≠ 40) :
    Calls Try.prog 23 #[devV D a len cap, .int .i64 (i : Int), .string s] w (AppPost w F len D 0 2) := by
  obtain ⟨x, z, sa, sl, sc, rfl, hzk, hza, hzs⟩ := hz.zone i hi
  have hxb := zone_block hza
  have hfd := fun W (h : Below w.heap.size w W) => find_ok D x len cap i z sa sl sc W (hz.on (Agree.below h)).is hi hc (hza.on h hxb)
  have hA : Below w.heap.size w ((w.alloc (devRow D.size D.maxOpen D.maxActive (some x) len cap)).alloc (devRow 0 0 0 none 0 0)) := ((Below.refl _ _).alloc (Nat.le_refl _) _).alloc (by simp) _
  unfold AppPost
  have hs1 : ((s.size : Int) != 40) = true := by simp; omega
  have HK := Lib.hid hfd
  have HA := Lib.hid hA
  clear hfd hA hza hzs hs
  obtain ⟨size, op, act, Z⟩ := D
  obtain ⟨st, du, L⟩ := z
  go_enter Try.func23, Try.ntmps23
  go_wp2_with (first
    | (go_at_call 46; ((with_reducible refine (HK.out _ HA.out).mono ?_); rintro e w1 ⟨rfl, hb1⟩; have hx1 := row_al (row_on hb1 (heap_first2 w _ _) (by simp only [World.size_alloc]; omega)) (zoneRow st du sa sl sc); have hr1 := row_al (row_on hb1 (heap_second w _ _) (by simp only [World.size_alloc]; omega)) (zoneRow st du sa sl sc); obtain ⟨y0, d0, d1, d2, d3⟩ := row4 (row_on hb1 (heap_first2 w _ _) (by simp only [World.size_alloc]; omega)); obtain ⟨y1, f0, f1, f2, f3⟩ := row4 hx1; have hq1 := heap_alloc_new w1 (zoneRow st du sa sl sc); obtain ⟨yq, g0, g1, g2⟩ := row3 hq1; have b0 := HA.out.trans (hb1.mono (by simp only [World.size_alloc]; omega)); have b1 := b0.alloc b0.size (zoneRow st du sa sl sc); clear d0 d1 d2 d3))
    | (((with_reducible refine Plan.store_lit 24 (.tmp 6) _ (w.heap.size + 1) ?_ hr1 ?_ ?_ ?_ ?_ ?_ ?_); rotate_left; (· rfl); (· rfl); (· exact dev_info); (· rfl); (· simp [Value.oneCell']); simp only [Act.put])))
  have b2 := below_setRow b1 (show w.heap.size ≤ w.heap.size + 1 by omega) #[.int .i64 size, .int .i64 op, .int .i64 act, .slice (some x) len cap]
  refine bodyPost_ret (results_cell_tmp2 (p := 6) (q := 7) (r := 8) rfl _ _ _ _ _ _ _ rfl (setRow_heap _ _ _ _ _ _ hr1) Try.underlying24 rfl dev_info) rfl ⟨some x, cap, rfl, (hz.on (Agree.below b2)).mono (fun b _ hb => .inl hb), b2⟩
set_option maxHeartbeats 2000000 in
set_option maxRecDepth 20000 in
theorem append_no (F : Nat → Prop) (D : Dev) (a : Option Addr) (len cap i : Nat) (s : ByteArray) (w : World) (hF : ∀ b, F b → b < w.heap.size) (hz : ZonesIn w F a len cap D.zones) (hm : len ≤ 1000000) (hi : i < len) (hc : checkE D = 0) (hs : s.size = 40) (hE : admE D i ≠ 0) :
    Calls Try.prog 23 #[devV D a len cap, .int .i64 (i : Int), .string s] w (AppPost w F len D 0 (admE D i)) := by
  obtain ⟨x, z, sa, sl, sc, rfl, hzk, hza, hzs⟩ := hz.zone i hi
  have hxb := zone_block hza
  have hfd := fun W (h : Below w.heap.size w W) => find_ok D x len cap i z sa sl sc W (hz.on (Agree.below h)).is hi hc (hza.on h hxb)
  have had := fun W (h : Below w.heap.size w W) => admit_any F D (some x) len cap i W (fun b hb => Nat.lt_of_lt_of_le (hF b hb) h.size) (hz.on (Agree.below h)) hm hi hc
  have hs1 : ((s.size : Int) != 40) = false := by simp; omega
  have hA : Below w.heap.size w ((w.alloc (devRow D.size D.maxOpen D.maxActive (some x) len cap)).alloc (devRow 0 0 0 none 0 0)) := ((Below.refl _ _).alloc (Nat.le_refl _) _).alloc (by simp) _
  unfold AppPost
  unfold DevPost at had
  generalize admR D i = RD at *
  generalize admE D i = RE at *
  have hE1 : (RE != 0) = true := by simp [hE]
  have HK := Lib.hid hfd
  have HM := Lib.hid had
  have HA := Lib.hid hA
  clear hfd had hA hza hzs hs hE
  obtain ⟨size, op, act, Z⟩ := D
  obtain ⟨st, du, L⟩ := z
  obtain ⟨s2, o2, t2, Z2⟩ := RD
  go_enter Try.func23, Try.ntmps23
  go_wp2_with (first
    | (go_at_call 46; ((with_reducible refine (HK.out _ HA.out).mono ?_); rintro e w1 ⟨rfl, hb1⟩; have hx1 := row_al (row_on hb1 (heap_first2 w _ _) (by simp only [World.size_alloc]; omega)) (zoneRow st du sa sl sc); have hr1 := row_al (row_on hb1 (heap_second w _ _) (by simp only [World.size_alloc]; omega)) (zoneRow st du sa sl sc); obtain ⟨y0, d0, d1, d2, d3⟩ := row4 (row_on hb1 (heap_first2 w _ _) (by simp only [World.size_alloc]; omega)); obtain ⟨y1, f0, f1, f2, f3⟩ := row4 hx1; have hq1 := heap_alloc_new w1 (zoneRow st du sa sl sc); obtain ⟨yq, g0, g1, g2⟩ := row3 hq1; have b0 := HA.out.trans (hb1.mono (by simp only [World.size_alloc]; omega)); have b1 := b0.alloc b0.size (zoneRow st du sa sl sc)))
    | (go_at_call 47; ((with_reducible refine (HM.out _ b1).mono ?_); rintro e w2 ⟨a2, c2, rfl, hz2, hb2⟩; have hx2 := row_on hb2 hx1 (lt_of_block hx1); have hr2 := row_on hb2 hr1 (lt_of_block hr1); have hq2 := row_on hb2 hq1 (lt_of_block hq1); obtain ⟨y2, f0, f1, f2, f3⟩ := row4 hx2; obtain ⟨yq2, g0, g1, g2⟩ := row3 hq2; have b2 := b1.trans (hb2.mono b1.size); have hx2' := row_al hx2 (devRow s2 o2 t2 a2 len c2); have hr2' := row_al hr2 (devRow s2 o2 t2 a2 len c2); have hq2' := row_al hq2 (devRow s2 o2 t2 a2 len c2); have hv2' := heap_alloc_new w2 (devRow s2 o2 t2 a2 len c2); obtain ⟨y2', d0, d1, d2, d3⟩ := row4 hx2'; obtain ⟨v2', l0, l1, l2, l3⟩ := row4 hv2'; obtain ⟨yq2', k0, k1, k2⟩ := row3 hq2'; have b2' := b2.alloc b2.size (devRow s2 o2 t2 a2 len c2)))
    | (((with_reducible refine Plan.store_lit 24 (.tmp 6) _ (w.heap.size + 1) ?_ hr2' ?_ ?_ ?_ ?_ ?_ ?_); rotate_left; (· rfl); (· rfl); (· exact dev_info); (· rfl); (· simp [Value.oneCell']); simp only [Act.put])))
  have b4 := below_setRow b2' (show w.heap.size ≤ w.heap.size + 1 by omega) #[.int .i64 size, .int .i64 op, .int .i64 act, .slice (some x) len cap]
  refine bodyPost_ret (results_cell_tmp2 (p := 6) (q := 7) (r := 8) rfl _ _ _ _ _ _ _ rfl (setRow_heap _ _ _ _ _ _ hr2') Try.underlying24 rfl dev_info) rfl ⟨some x, cap, rfl, (hz.on (Agree.below b4)).mono (fun b _ hb => .inl hb), b4⟩
set_option maxHeartbeats 2000000 in
set_option maxRecDepth 20000 in
theorem append_ok (F : Nat → Prop) (D : Dev) (a : Option Addr) (len cap i : Nat) (s : ByteArray) (w : World) (hF : ∀ b, F b → b < w.heap.size) (hz : ZonesIn w F a len cap D.zones) (hm : len ≤ 1000000) (hi : i < len) (hc : checkE D = 0) (hs : s.size = 40) (hE : admE D i = 0) :
    Calls Try.prog 23 #[devV D a len cap, .int .i64 (i : Int), .string s] w (AppPost w F len (withZ (ready D (i : Int)) i (appended (D.zones.getD i empty) s D.size)) ((D.zones.getD i empty).sectors.length : Int) 0) := by
  obtain ⟨x, z, sa, sl, sc, rfl, hzk, hza, hzs⟩ := hz.zone i hi
  have hxb := zone_block hza
  have hfd := fun W (h : Below w.heap.size w W) => find_ok D x len cap i z sa sl sc W (hz.on (Agree.below h)).is hi hc (hza.on h hxb)
  have had := fun W (h : Below w.heap.size w W) => admit_any F D (some x) len cap i W (fun b hb => Nat.lt_of_lt_of_le (hF b hb) h.size) (hz.on (Agree.below h)) hm hi hc
  have hs1 : ((s.size : Int) != 40) = false := by simp; omega
  have hA : Below w.heap.size w ((w.alloc (devRow D.size D.maxOpen D.maxActive (some x) len cap)).alloc (devRow 0 0 0 none 0 0)) := ((Below.refl _ _).alloc (Nat.le_refl _) _).alloc (by simp) _
  have hr := check_parts hc
  have hsl := hzs.1.length
  have hsm : sl ≤ 1000000 := by
    have h1 := config_parts hr.1
    have h2 := hr.2.1
    unfold rightsB at h2
    rw [List.all_eq_true] at h2
    have h3 := h2 z (List.mem_of_getElem? hzk)
    unfold rightB at h3
    simp only [Bool.and_eq_true, decide_eq_true_eq] at h3
    omega
  rw [getD_of hzk, ← admR_ready hE, hsl]
  rw [hE] at had
  unfold AppPost
  unfold DevPost at had
  have hgr : ∀ W, Below w.heap.size w W → Calls Try.prog 49 #[zoneV z sa sl sc, .string s, .int .i64 D.size] W fun e w' => ∃ g c, e = .returned (zoneV (appended z s D.size) (some ⟨g, 0, none⟩) (sl + 1) c) ∧ StrsIn w' (Plus F W.heap.size) (some ⟨g, 0, none⟩) (sl + 1) c (appended z s D.size).sectors ∧ Below W.heap.size W w' := fun W h => by
    rw [appended_sectors]
    exact grown_any F z s D.size sa sl sc W (hzs.on (Agree.below h)) hsm (by unfold maxLen; omega)
  generalize admR D i = RD at *
  generalize appended z s D.size = az at *
  have HK := Lib.hid hfd
  have HM := Lib.hid had
  have HA := Lib.hid hA
  have HG := Lib.hid hgr
  clear hfd had hA hza hzs hs hE hgr hr
  obtain ⟨size, op, act, Z⟩ := D
  obtain ⟨st, du, L⟩ := z
  obtain ⟨s2, o2, t2, Z2⟩ := RD
  obtain ⟨ast, adu, aL⟩ := az
  go_enter Try.func23, Try.ntmps23
  go_wp2_with (first
    | (go_at_call 46; ((with_reducible refine (HK.out _ HA.out).mono ?_); rintro e w1 ⟨rfl, hb1⟩; have hx1 := row_al (row_on hb1 (heap_first2 w _ _) (by simp only [World.size_alloc]; omega)) (zoneRow st du sa sl sc); have hr1 := row_al (row_on hb1 (heap_second w _ _) (by simp only [World.size_alloc]; omega)) (zoneRow st du sa sl sc); obtain ⟨y0, d0, d1, d2, d3⟩ := row4 (row_on hb1 (heap_first2 w _ _) (by simp only [World.size_alloc]; omega)); obtain ⟨y1, f0, f1, f2, f3⟩ := row4 hx1; have hq1 := heap_alloc_new w1 (zoneRow st du sa sl sc); obtain ⟨yq, g0, g1, g2⟩ := row3 hq1; have b0 := HA.out.trans (hb1.mono (by simp only [World.size_alloc]; omega)); have b1 := b0.alloc b0.size (zoneRow st du sa sl sc)))
    | (go_at_call 47; ((with_reducible refine (HM.out _ b1).mono ?_); rintro e w2 ⟨a2, c2, rfl, hz2, hb2⟩; have hx2 := row_on hb2 hx1 (lt_of_block hx1); have hr2 := row_on hb2 hr1 (lt_of_block hr1); have hq2 := row_on hb2 hq1 (lt_of_block hq1); obtain ⟨y2, f0, f1, f2, f3⟩ := row4 hx2; obtain ⟨yq2, g0, g1, g2⟩ := row3 hq2; have b2 := b1.trans (hb2.mono b1.size); have hx2' := row_al hx2 (devRow s2 o2 t2 a2 len c2); have hr2' := row_al hr2 (devRow s2 o2 t2 a2 len c2); have hq2' := row_al hq2 (devRow s2 o2 t2 a2 len c2); have hv2' := heap_alloc_new w2 (devRow s2 o2 t2 a2 len c2); obtain ⟨y2', d0, d1, d2, d3⟩ := row4 hx2'; obtain ⟨v2', l0, l1, l2, l3⟩ := row4 hv2'; obtain ⟨yq2', k0, k1, k2⟩ := row3 hq2'; have b2' := b2.alloc b2.size (devRow s2 o2 t2 a2 len c2))))
  have d3' := (row4 hx2').2.2.2.2
  have l3' := (row4 hv2').2.2.2.2
  refine Plan.start (fun W => DevAt W w.heap.size size op act (some x) len cap ∧ (W.cell? ⟨w1.heap.size, 0, none⟩ = some (.int .i64 st) ∧ W.cell? ⟨w1.heap.size, 1, none⟩ = some (.int .i64 du) ∧ W.cell? ⟨w1.heap.size, 2, none⟩ = some (.slice sa sl sc)) ∧ DevAt W w2.heap.size s2 o2 t2 a2 len c2) [(0, true), (1, true), (2, true), (3, true), (4, true), (5, true), (8, true), (9, true), (10, true), (6, false), (7, false), (11, false), (12, true), (13, true)] (by kernel_rfl) (by kernel_rfl) (by kernel_rfl) (by kernel_rfl) ⟨(row4 hx2').2, (row3 hq2').2, (row4 hv2').2⟩ ?_
  simp only [List.map_cons, List.map_nil, List.getElem?_toArray, List.getElem?_cons_zero, List.getElem?_cons_succ]
  repeat (first | (refine Plan.take ?_ (by rfl) ?_ ?_; rotate_left; (· rintro w9 ⟨⟨e0, e1, e2, e3⟩, ⟨z0, z1, z2⟩, m0, m1, m2, m3⟩; go_simp; (try rw [if_neg (by omega)]); all_goals (with_reducible rfl)); simp only [Act.put, List.setIfInBounds_toArray, List.set_cons_zero, List.set_cons_succ]) | (refine Plan.pass (by rfl) ?_; simp only [Act.put, List.setIfInBounds_toArray, List.set_cons_zero, List.set_cons_succ]))
  refine Plan.call (by rfl) 49 _ ?_ (HG.out _ b2'.drew) ?_
  · go_simp
  rintro e w3 ⟨g3, c3, rfl, hs3, hb3⟩
  have hb3 := (Below.refl (w2.alloc (devRow s2 o2 t2 a2 len c2)).heap.size (w2.alloc (devRow s2 o2 t2 a2 len c2))).drew.trans hb3
  have hx3 := row_on hb3 hx2' (lt_of_block hx2')
  have hr3 := row_on hb3 hr2' (lt_of_block hr2')
  have hq3 := row_on hb3 hq2' (lt_of_block hq2')
  have hv3 := row_on hb3 hv2' (lt_of_block hv2')
  have b3 := b2'.trans (hb3.mono b2'.size)
  have hz3 := (hz2.on (Agree.below ((Below.refl _ _).alloc (Nat.le_refl _) (devRow s2 o2 t2 a2 len c2)))).on (Agree.below hb3)
  have hn1 := (hb2.alloc hb2.size (devRow s2 o2 t2 a2 len c2)).size
  have hs3' : StrsIn w3 (Plus F (w1.alloc (zoneRow st du sa sl sc)).heap.size) (some ⟨g3, 0, none⟩) (sl + 1) c3 aL := hs3.mono (fun b _ hb => hb.imp id (fun h => Nat.le_trans hn1 h))
  refine ⟨_, rfl, ⟨(row4 hx3).2, (row3 hq3).2, (row4 hv3).2⟩, ?_⟩
  simp only [Act.put, List.setIfInBounds_toArray, List.set_cons_zero, List.set_cons_succ]
  refine Plan.call (by rfl) 48 _ ?_ (pwith_from (Plus F (w1.alloc (zoneRow st du sa sl sc)).heap.size) ⟨s2, o2, t2, Z2⟩ a2 len c2 i ast adu aL (some ⟨g3, 0, none⟩) (sl + 1) c3 w3 hz3 hi hm hs3') ?_
  · go_simp
  rintro e w4 ⟨a4, c4, rfl, hz4, hb4⟩
  have hx4 := row_on hb4 hx3 (lt_of_block hx3)
  have hr4 := row_on hb4 hr3 (lt_of_block hr3)
  have hq4 := row_on hb4 hq3 (lt_of_block hq3)
  have hv4 := row_on hb4 hv3 (lt_of_block hv3)
  have b4 := b3.trans (hb4.mono b3.size)
  refine ⟨_, rfl, ⟨(row4 hx4).2, (row3 hq4).2, (row4 hv4).2⟩, ?_⟩
  simp only [Act.put, List.setIfInBounds_toArray, List.set_cons_zero, List.set_cons_succ]
  have hlt1 := lt_of_block (row_on hb1 (heap_second w _ _) (by simp only [World.size_alloc]; omega))
  have hlt2 := lt_of_block hr2
  have b5 := below_setRow b4 (show w.heap.size ≤ w.heap.size + 1 by omega) #[.int .i64 s2, .int .i64 o2, .int .i64 t2, .slice a4 len c4]
  have hx5 := (setRow_other w4 (w.heap.size + 1) w.heap.size #[.int .i64 s2, .int .i64 o2, .int .i64 t2, .slice a4 len c4] (by omega)).trans hx4
  have hq5 := (setRow_other w4 (w.heap.size + 1) w1.heap.size #[.int .i64 s2, .int .i64 o2, .int .i64 t2, .slice a4 len c4] (by omega)).trans hq4
  have hv5 := (setRow_other w4 (w.heap.size + 1) w2.heap.size #[.int .i64 s2, .int .i64 o2, .int .i64 t2, .slice a4 len c4] (by omega)).trans hv4
  have hlt3 := lt_of_block hr3
  refine Plan.store (by rfl) 24 _ _ rfl (w.heap.size + 1) #[.int .i64 s2, .int .i64 o2, .int .i64 t2, .slice a4 len c4] (by rfl) (by rfl) 24 _ hr4 dev_info rfl (by simp [Value.oneCell']) ⟨(row4 hx5).2, (row3 hq5).2, (row4 hv5).2⟩ ?_
  simp only [Act.put]
  repeat (first | (refine Plan.take ?_ (by rfl) ?_ ?_; rotate_left; (· rintro w9 ⟨⟨e0, e1, e2, e3⟩, ⟨z0, z1, z2⟩, m0, m1, m2, m3⟩; go_simp; (try rw [if_neg (by omega)]); all_goals (with_reducible rfl)); simp only [Act.put, List.setIfInBounds_toArray, List.set_cons_zero, List.set_cons_succ]) | (refine Plan.pass (by rfl) ?_; simp only [Act.put, List.setIfInBounds_toArray, List.set_cons_zero, List.set_cons_succ]))
  refine Plan.ends ?_
  go_wp2_with fail
  have hz5 := hz4.on (Agree.row (by
    rintro (h | h)
    · exact plus_not hF (by omega) (by simp only [World.size_alloc]; omega) h
    · omega : ¬ Plus (Plus F (w1.alloc (zoneRow st du sa sl sc)).heap.size) w3.heap.size (w.heap.size + 1)) #[.int .i64 s2, .int .i64 o2, .int .i64 t2, .slice a4 len c4])
  refine bodyPost_ret (results_cell_tmp2 (p := 6) (q := 7) (r := 8) rfl _ _ _ _ _ _ _ rfl (setRow_heap _ _ _ _ _ _ hr4) Try.underlying24 rfl dev_info) rfl ⟨a4, c4, rfl, hz5.mono ?_, b5⟩
  have n3 := b3.size
  rintro b - ((h | h) | h)
  · exact .inl h
  · exact .inr (Nat.le_trans b1.size h)
  · exact .inr (Nat.le_trans n3 h)
theorem append_any (F : Nat → Prop) (D : Dev) (a : Option Addr) (len cap : Nat) (k : Int) (s : ByteArray) (w : World) (hF : ∀ b, F b → b < w.heap.size) (hz : ZonesIn w F a len cap D.zones) (hm : len ≤ 1000000) :
    Calls Try.prog 23 #[devV D a len cap, .int .i64 k, .string s] w (AppPost w F len (appendR D k s) (appendO D k s) (appendE D k s)) := by
  by_cases hE : zoneE D k = 0
  · obtain ⟨hc, h1, h2⟩ := zoneE_of hE
    obtain ⟨i, rfl⟩ : ∃ i : Nat, k = (i : Int) := ⟨k.toNat, by omega⟩
    have hi : i < len := by rw [hz.is.length] at h2; omega
    by_cases hs : s.size = 40
    · have he : appendE D (i : Int) s = admE D i := by
        unfold appendE admE
        simp [hE, hs]
      by_cases ha : admE D i = 0
      · obtain ⟨x, z, sa, sl, sc, -, hzk, -, -⟩ := hz.zone i hi
        have hr : appendR D (i : Int) s = withZ (ready D (i : Int)) i (appended (D.zones.getD i empty) s D.size) := by
          unfold appendR
          rw [he, if_pos ha, Int.toNat_natCast, getD_of (ready_at hzk), getD_of hzk]
        have ho : appendO D (i : Int) s = ((D.zones.getD i empty).sectors.length : Int) := by
          unfold appendO
          rw [he, if_pos ha, Int.toNat_natCast, getD_of (ready_at hzk), getD_of hzk]
        rw [he, hr, ho, ha]
        exact append_ok F D a len cap i s w hF hz hm hi hc hs ha
      · have hr : appendR D (i : Int) s = D := by unfold appendR; rw [he, if_neg ha]
        have ho : appendO D (i : Int) s = 0 := by unfold appendO; rw [he, if_neg ha]
        rw [he, hr, ho]
        exact append_no F D a len cap i s w hF hz hm hi hc hs ha
    · have he : appendE D (i : Int) s = 2 := by simp [appendE, hE, hs]
      rw [show appendR D (i : Int) s = D by simp [appendR, he], show appendO D (i : Int) s = 0 by simp [appendO, he], he]
      exact append_size F D a len cap i s w hz hi hc hs
  · have he : appendE D k s = zoneE D k := by simp [appendE, hE]
    rw [show appendR D k s = D by simp [appendR, he, hE], show appendO D k s = 0 by simp [appendO, he, hE], he]
    exact append_err F D a len cap k s w hz hE
end Go.Proofs.Ytlmlmgegnnikeaa

/- The walks of the program's Read and New. -/
namespace Go.Proofs.Ytlmlmgegnnikeaa
open Go.RowKit Plan ZnsMath

set_option maxHeartbeats 2000000 in
set_option maxRecDepth 20000 in
theorem read_any (D : Dev) (a : Option Addr) (len cap : Nat) (k off : Int) (w : World) (hz : IsZones w a len cap D.zones) :
    Calls Try.prog 22 #[devV D a len cap, .int .i64 k, .int .i64 off] w fun e w' => e = .returned (.tuple #[.string (readR D k off), .int .i64 (readE D k off)]) ∧ Below w.heap.size w w' := by
  have hl := hz.length
  have hB1 : Below w.heap.size w (w.alloc (devRow D.size D.maxOpen D.maxActive a len cap)) := (Below.refl _ _).alloc (Nat.le_refl _) _
  by_cases hE : beginE D k = 0
  · obtain ⟨i, rfl, hi, hc, hs5⟩ := begin_range hE
    rw [hl] at hi
    obtain ⟨x, z, sa, sl, sc, rfl, hzk, hza, hzs⟩ := hz.zone i hi
    rw [stateAt_of hzk] at hs5
    have hxb := zone_block hza
    have hsl := hzs.length
    have hfd := fun W (h : Below w.heap.size w W) => online_ok D x len cap i z sa sl sc W (hz.on h (Nat.le_refl _)) hi hc (hza.on h hxb) hs5
    have hre : readE D i off = if off < 0 ∨ (sl : Int) ≤ off then 10 else 0 := by
      unfold readE
      rw [if_neg (by simp [hE]), Int.toNat_natCast, getD_of hzk, hsl]
    have hrr : readR D i off = if readE D i off = 0 then z.sectors.getD off.toNat ⟨#[]⟩ else ⟨#[]⟩ := by
      unfold readR
      rw [Int.toNat_natCast, getD_of hzk]
    generalize readE D i off = E at *
    generalize readR D i off = R at *
    have HK := Lib.hid hfd
    have HA := Lib.hid hB1
    clear hfd hB1 hE hza hz hs5
    obtain ⟨size, op, act, Z⟩ := D
    obtain ⟨st, du, L⟩ := z
    by_cases ho : off < 0 ∨ (sl : Int) ≤ off
    · rw [if_pos ho] at hre
      subst hre
      rw [if_neg (by decide)] at hrr
      subst hrr
      have h3 : off < 0 ∨ (¬ off < 0 ∧ (sl : Int) ≤ off) := by omega
      clear ho
      rcases h3 with h1 | ⟨h1, h2⟩
      all_goals
        go_enter Try.func22, Try.ntmps22
        go_wp2_with (go_at_call 45; ((with_reducible refine (HK.out _ HA.out).mono ?_); rintro e w1 ⟨rfl, hb1⟩; have hx1 := row_al (row_on hb1 (heap_alloc_new w _) (by simp)) (zoneRow st du sa sl sc); have hq1 := heap_alloc_new w1 (zoneRow st du sa sl sc); obtain ⟨y1, d0, d1, d2, d3⟩ := row4 hx1; obtain ⟨yq1, g0, g1, g2⟩ := row3 hq1; have b0 := HA.out.trans (hb1.mono (by simp)); have b1 := b0.alloc b0.size (zoneRow st du sa sl sc)))
        go_ret2
        exact ⟨rfl, b1⟩
    · rw [if_neg ho] at hre
      subst hre
      rw [if_pos rfl] at hrr
      obtain ⟨j, rfl⟩ : ∃ j : Nat, off = (j : Int) := ⟨off.toNat, by omega⟩
      have hjI : (j : Int) < (sl : Int) := by omega
      have hj0 : ¬ (j : Int) < 0 := by omega
      rw [Int.toNat_natCast] at hrr
      obtain ⟨y, hy, hcc⟩ := hzs.some (by omega)
      subst hy
      have hzj : L[j]? = some R := by
        rw [hrr, List.getD_eq_getElem?_getD, List.getElem?_eq_getElem (show j < L.length by have : L.length = sl := hsl; omega)]; rfl
      have hcj := (hcc j R hzj).1
      have HJ := Lib.hid hcj
      clear hcc hcj hzj hrr hzs ho
      go_enter Try.func22, Try.ntmps22
      go_wp2_with (go_at_call 45; ((with_reducible refine (HK.out _ HA.out).mono ?_); rintro e w1 ⟨rfl, hb1⟩; have hx1 := row_al (row_on hb1 (heap_alloc_new w _) (by simp)) (zoneRow st du (some y) sl sc); have hq1 := heap_alloc_new w1 (zoneRow st du (some y) sl sc); obtain ⟨y1, d0, d1, d2, d3⟩ := row4 hx1; obtain ⟨yq1, g0, g1, g2⟩ := row3 hq1; have b0 := HA.out.trans (hb1.mono (by simp)); have b1 := b0.alloc b0.size (zoneRow st du (some y) sl sc); have hcj := (b1.cell (block_lt_of_cell HJ.out)).trans HJ.out))
      go_ret2
      exact ⟨rfl, b1⟩
  · have hr : readE D k off = beginE D k := by simp [readE, hE]
    have hrr : readR D k off = ⟨#[]⟩ := by unfold readR; rw [hr, if_neg hE]
    have hfd := fun W (h : Below w.heap.size w W) => online_no D a len cap k W (hz.on h (Nat.le_refl _)) hE
    rw [hr, hrr]
    generalize beginE D k = E at *
    have hE1 : (E != 0) = true := by simp [hE]
    have HK := Lib.hid hfd
    have HA := Lib.hid hB1
    clear hfd hB1 hE
    obtain ⟨size, op, act, Z⟩ := D
    go_enter Try.func22, Try.ntmps22
    go_wp2_with (go_at_call 45; ((with_reducible refine (HK.out _ HA.out).mono ?_); rintro e w1 ⟨rfl, hb1⟩; have hx1 := row_al (row_on hb1 (heap_alloc_new w _) (by simp)) (zoneRow 0 0 none 0 0); have hq1 := heap_alloc_new w1 (zoneRow 0 0 none 0 0); obtain ⟨y1, d0, d1, d2, d3⟩ := row4 hx1; obtain ⟨yq1, g0, g1, g2⟩ := row3 hq1; have b0 := HA.out.trans (hb1.mono (by simp)); have b1 := b0.alloc b0.size (zoneRow 0 0 none 0 0)))
    go_ret2
    exact ⟨rfl, b1⟩
theorem rights_empty (n : Nat) (size : Int) (h : 0 < size) : rightsB (List.replicate n empty) size = true := by
  unfold rightsB
  rw [List.all_eq_true]
  intro z hz
  obtain rfl := (List.mem_replicate.1 hz).2
  unfold rightB
  simp [empty, sizesB]
  omega
theorem counts_empty (n : Nat) : countO (List.replicate n empty) = 0 ∧ countA (List.replicate n empty) = 0 := by
  constructor <;> simp [countO, countA, empty, openB, activeB]
theorem newE_eq (zones size op act : Int) : newE zones size op act = if possibleB zones size op act = true then 0 else 11 := by
  unfold newE
  by_cases h : zones < 1 ∨ 32 < zones
  · rw [if_pos h, if_neg]
    unfold possibleB
    simp only [decide_eq_true_eq]
    omega
  · rw [if_neg h]
    have hc : configB (newD zones size op act) = possibleB zones size op act := by
      rw [configB_eq]
      simp only [newD, List.length_replicate]
      rw [Int.toNat_of_nonneg (by omega)]
    unfold checkE
    rw [hc]
    cases hp : possibleB zones size op act with
    | false => rfl
    | true =>
      unfold possibleB at hp
      simp only [decide_eq_true_eq] at hp
      have h2 := rights_empty zones.toNat size (by omega)
      have h3 := counts_empty zones.toNat
      rw [if_neg (by decide), if_pos rfl]
      rw [if_neg (by simp [newD, h2])]
      rw [if_neg]
      simp only [newD, h3.1, h3.2]
      omega
set_option maxHeartbeats 2000000 in
set_option maxRecDepth 20000 in
theorem new_any (zones size op act : Int) (w : World) :
    Calls Try.prog 12 #[.int .i64 zones, .int .i64 size, .int .i64 op, .int .i64 act] w
      (DevPost w (fun _ => False) (if newE zones size op act = 0 then zones.toNat else 0) (newR zones size op act) (newE zones size op act)) := by
  obtain ⟨i1, hi1, hy0, hy1, hy2⟩ := info_parts zone_info6
  have hE := newE_eq zones size op act
  have hps := fun W => possible_any zones size op act W
  have hR : newR zones size op act = if newE zones size op act = 0 then newD zones size op act else zero := rfl
  rw [hR, hE]
  unfold DevPost
  have HP := Lib.hid hps
  clear hR hE hps
  have HA := Lib.hid ((Below.refl w.heap.size w).alloc (Nat.le_refl _) (devRow 0 0 0 none 0 0))
  cases hp : possibleB zones size op act with
  | false =>
    rw [hp] at HP
    clear hp
    simp only [Bool.false_eq_true, if_false, if_neg (show ¬ (11 : Int) = 0 by decide)]
    go_enter Try.func12, Try.ntmps12
    go_wp2_with (go_at_call 37; ((with_reducible refine (HP.out _).mono ?_); rintro e w1 ⟨rfl, rfl⟩))
    exact bodyPost_ret (Plan.results_cell_tmp (p := 8) (q := 9) rfl _ _ _ _ _ _ _ rfl (heap_alloc_new _ _) Try.underlying24 rfl dev_info) rfl ⟨none, 0, rfl, .inl ⟨rfl, rfl, rfl, rfl⟩, (Below.refl _ _).alloc (Nat.le_refl _) _⟩
  | true =>
    rw [hp] at HP
    have hb : 1 ≤ zones ∧ zones ≤ 32 := by
      unfold possibleB at hp
      simp only [decide_eq_true_eq] at hp
      omega
    clear hp
    obtain ⟨n, rfl⟩ : ∃ n : Nat, zones = (n : Int) := ⟨zones.toNat, by omega⟩
    simp only [if_true]
    rw [show newD (n : Int) size op act = ⟨size, op, act, List.replicate n empty⟩ by simp [newD], show (n : Int).toNat = n by simp]
    go_enter Try.func12, Try.ntmps12
    go_wp2_with (first
      | (go_at_call 37; ((with_reducible refine (HP.out _).mono ?_); rintro e w1 ⟨rfl, rfl⟩))
      | (at_make; refine wpList_make_full _ rfl _ _ 22 rfl (w.heap.size + 1) 48 i1 _ 3 Try.underlying22 hi1 hy0 hy1 .i64 .i64 (n : Int) (n : Int) n rfl rfl rfl rfl (by rw [hy2]; omega) (by unfold maxLen; omega) (by simp) ?_; intro w1 hown1 hgrow1; simp only [World.size_alloc] at hown1; have b1 := HA.out.grown hgrow1 (by simp) (fun k hk => by cases hk); have hr1 := (hgrow1.block w.heap.size (by simp) (by simp)).trans (heap_alloc_new w (devRow 0 0 0 none 0 0)); have hz1 := new_zones hown1)
      | ((with_reducible refine Plan.store_lit 24 (.tmp 8) _ w.heap.size ?_ hr1 ?_ ?_ ?_ ?_ ?_ ?_); rotate_left; (· rfl); (· rfl); (· exact dev_info); (· rfl); (· simp [Value.oneCell']); simp only [Act.put]))
    have hz4 := hz1.on (Agree.row (by show ¬ w.heap.size + 1 ≤ w.heap.size; omega : ¬ (fun b => w.heap.size + 1 ≤ b) w.heap.size) #[.int .i64 size, .int .i64 op, .int .i64 act, .slice (some ⟨w.heap.size + 1, 0, none⟩) n n])
    refine bodyPost_ret (Plan.results_cell_tmp (p := 8) (q := 9) rfl _ _ _ _ _ _ _ rfl (setRow_heap _ _ _ _ _ _ hr1) Try.underlying24 rfl dev_info) rfl ⟨_, _, rfl, hz4.mono (fun b _ hb => .inr (Nat.le_of_succ_le hb)), below_setRow b1 (Nat.le_refl _) _⟩
theorem refNew_any (zones size op act : Int) (w : World) :
    Calls Try.prog 13 #[.int .i64 zones, .int .i64 size, .int .i64 op, .int .i64 act] w
      (DevPost w (fun _ => False) (if newE zones size op act = 0 then zones.toNat else 0) (newR zones size op act) (newE zones size op act)) := by
  by_cases h : zones < 1 ∨ 32 < zones
  · have hE : newE zones size op act = 11 := by unfold newE; rw [if_pos h]
    have hR : newR zones size op act = zero := by unfold newR; rw [hE]; rfl
    rw [hR, hE]
    exact refNew_config zones size op act w h
  · obtain ⟨n, rfl⟩ : ∃ n : Nat, zones = (n : Int) := ⟨zones.toNat, by omega⟩
    rw [show (n : Int).toNat = n by simp]
    exact refNew_made n size op act w (by omega) (by omega)
end Go.Proofs.Ytlmlmgegnnikeaa

/- The walk of the laws' sanity check. -/
namespace Go.Proofs.Ytlmlmgegnnikeaa
open Go.RowKit Plan ZnsMath

theorem addr0 (a : Addr) : a.add 0 = a := by simp [Addr.add]
theorem ex_sector : ∃ S : ByteArray, S.size = 40 ∧ ∀ w, Calls Try.prog 17 #[.agg #[.int .i64 2, .int .i64 0, .int .i64 1, .int .i64 0, .string ⟨#[]⟩]] w fun e w' => e = .returned (.string S) ∧ Below w.heap.size w w' := by
  have hk : RecMath.checkE (mk 2 0 1 0 ⟨#[]⟩) = 0 := by rw [check_eq]; decide
  have hd := RecMath.enc_length hk
  have hs := sector_made 2 0 1 0 ⟨#[]⟩
  generalize RecMath.encL (mk 2 0 1 0 ⟨#[]⟩) = x at hd hs
  exact ⟨⟨x.toArray⟩, by simpa [ByteArray.size] using hd, hs⟩
set_option maxHeartbeats 2000000 in
set_option maxRecDepth 20000 in
theorem awake_zns (w : World) : Calls Try.prog 10 #[] w fun e w' => e = .returned (.bool true) ∧ Below w.heap.size w w' := by
  obtain ⟨S, hS, hsec⟩ := ex_sector
  have hnew : ∀ W, Calls Try.prog 12 #[.int .i64 2, .int .i64 3, .int .i64 1, .int .i64 2] W fun e w' => ∃ a cap, e = .returned (.tuple #[.agg #[.int .i64 3, .int .i64 1, .int .i64 2, .slice a 2 cap], .int .i64 0]) ∧ ZonesIn w' (Plus (fun _ => False) W.heap.size) a 2 cap exD0.zones ∧ Below W.heap.size W w' := fun W => by
    have := new_any 2 3 1 2 W
    rw [ex_new.1, ex_new.2] at this
    exact this
  obtain ⟨o1, o2, o3⟩ := ex_one hS
  obtain ⟨p1, p2, p3⟩ := ex_two hS
  obtain ⟨r1, r2⟩ := ex_read hS
  have hap1 : ∀ (F : Nat → Prop) a cap W, (∀ b, F b → b < W.heap.size) → ZonesIn W F a 2 cap exD0.zones → Calls Try.prog 23 #[.agg #[.int .i64 3, .int .i64 1, .int .i64 2, .slice a 2 cap], .int .i64 0, .string S] W fun e w' => ∃ a' cap', e = .returned (.tuple #[.agg #[.int .i64 3, .int .i64 1, .int .i64 2, .slice a' 2 cap'], .int .i64 0, .int .i64 0]) ∧ ZonesIn w' (Plus F W.heap.size) a' 2 cap' (exD1 S).zones ∧ Below W.heap.size W w' := fun F a cap W hF hz => by
    have := append_any F exD0 a 2 cap 0 S W hF hz (by omega)
    rw [o1, o2, o3] at this
    exact this
  have hap2 : ∀ (F : Nat → Prop) a cap W, (∀ b, F b → b < W.heap.size) → ZonesIn W F a 2 cap (exD1 S).zones → Calls Try.prog 23 #[.agg #[.int .i64 3, .int .i64 1, .int .i64 2, .slice a 2 cap], .int .i64 1, .string S] W fun e w' => ∃ a' cap', e = .returned (.tuple #[.agg #[.int .i64 3, .int .i64 1, .int .i64 2, .slice a' 2 cap'], .int .i64 0, .int .i64 0]) ∧ ZonesIn w' (Plus F W.heap.size) a' 2 cap' (exD2 S).zones ∧ Below W.heap.size W w' := fun F a cap W hF hz => by
    have := append_any F (exD1 S) a 2 cap 1 S W hF hz (by omega)
    rw [p1, p2, p3] at this
    exact this
  have hrd : ∀ a cap W, IsZones W a 2 cap (exD2 S).zones → Calls Try.prog 22 #[.agg #[.int .i64 3, .int .i64 1, .int .i64 2, .slice a 2 cap], .int .i64 0, .int .i64 0] W fun e w' => e = .returned (.tuple #[.string S, .int .i64 0]) ∧ Below W.heap.size W w' := fun a cap W hz => by
    have := read_any (exD2 S) a 2 cap 0 0 W hz
    rw [r1, r2] at this
    exact this
  have HN := Lib.hid hnew
  have HS := Lib.hid hsec
  have HA := Lib.hid hap1
  have HB := Lib.hid hap2
  have HR := Lib.hid hrd
  clear hnew hsec hap1 hap2 hrd o1 o2 o3 p1 p2 p3 r1 r2 hS
  go_enter Try.func10, Try.ntmps10
  go_wp2_with (first
    | (go_at_call 12; ((with_reducible refine (HN.out _).mono ?_); rintro e w1 ⟨a1, c1, rfl, hz1, b1⟩; have hz1 := hz1.cut; have hv1 := heap_alloc_new w1 (devRow 3 1 2 a1 2 c1); have bb1 := b1.alloc b1.size (devRow 3 1 2 a1 2 c1); have hz1 := hz1.on (Agree.below ((Below.refl _ _).alloc (Nat.le_of_lt_succ (by simp)) (devRow 3 1 2 a1 2 c1) : Below w1.heap.size w1 (w1.alloc (devRow 3 1 2 a1 2 c1))))))
    | (go_at_call 17; ((with_reducible refine (HS.out _).mono ?_); rintro e w2 ⟨rfl, hb2⟩; have hv2 := row_on hb2 hv1 (lt_of_block hv1); have hz2 := hz1.on (Agree.below hb2); have b2 := bb1.trans (hb2.mono bb1.size); have n2 := lt_of_block hv2; obtain ⟨v2, l0, l1, l2, l3⟩ := row4 hv2))
    | (go_at_call 23; ((with_reducible refine (HA.out _ a1 c1 w2 (fun b hb => Nat.lt_trans hb.2 n2) hz2).mono ?_); rintro e w3 ⟨a4, c4, rfl, hz3, hb3⟩; have hv3 := row_on hb3 hv2 n2; have b3 := b2.trans (hb3.mono b2.size)))
    | ((with_reducible refine Plan.store_lit 24 (.tmp 1) _ w1.heap.size ?_ hv3 ?_ ?_ ?_ ?_ ?_ ?_); rotate_left; (· rfl); (· rfl); (· exact dev_info); (· rfl); (· simp [Value.oneCell']); simp only [Act.put]; have hv4 := setRow_heap _ _ _ #[.int .i64 3, .int .i64 1, .int .i64 2, .slice a4 2 c4] _ _ hv3; have hz4 := hz3.on (Agree.row (by rintro (h | h); (· exact Nat.lt_irrefl _ h.2); (· omega)) #[.int .i64 3, .int .i64 1, .int .i64 2, .slice a4 2 c4]); have b4 := below_setRow b3 b1.size #[.int .i64 3, .int .i64 1, .int .i64 2, .slice a4 2 c4]; generalize w3.setRow w1.heap.size #[.int .i64 3, .int .i64 1, .int .i64 2, .slice a4 2 c4] = w4 at hv4 hz4 b4 ⊢; obtain ⟨v4, l0, l1, l2, l3⟩ := row4 hv4)
    | (clear HA; go_at_call 23; ((with_reducible refine (HB.out _ a4 c4 w4 (fun b hb => hb.2) hz4.cut).mono ?_); rintro e w5 ⟨a6, c6, rfl, hz5, hb5⟩; have hv5 := row_on hb5 hv4 (lt_of_block hv4); have b5 := b4.trans (hb5.mono b4.size)))
    | ((with_reducible refine Plan.store_lit 24 (.tmp 1) _ w1.heap.size ?_ hv5 ?_ ?_ ?_ ?_ ?_ ?_); rotate_left; (· rfl); (· rfl); (· exact dev_info); (· rfl); (· simp [Value.oneCell']); simp only [Act.put]; have hv6 := setRow_heap _ _ _ #[.int .i64 3, .int .i64 1, .int .i64 2, .slice a6 2 c6] _ _ hv5; have hz6 := hz5.on (Agree.row (by rintro (⟨h | h, -⟩ | h); (· exact Nat.lt_irrefl _ h.2); (· omega); (· omega)) #[.int .i64 3, .int .i64 1, .int .i64 2, .slice a6 2 c6]); have b6 := below_setRow b5 b1.size #[.int .i64 3, .int .i64 1, .int .i64 2, .slice a6 2 c6]; generalize w5.setRow w1.heap.size #[.int .i64 3, .int .i64 1, .int .i64 2, .slice a6 2 c6] = w6 at hv6 hz6 b6 ⊢; obtain ⟨v6, l0, l1, l2, l3⟩ := row4 hv6)
    | (go_at_call 22; ((with_reducible refine (HR.out a6 c6 w6 hz6.is).mono ?_); rintro e w7 ⟨rfl, hb7⟩; have hv7 := row_on hb7 hv6 (lt_of_block hv6); have hz7 := hz6.on (Agree.below hb7); have b7 := b6.trans (hb7.mono b6.size); obtain ⟨v7, l0, l1, l2, l3⟩ := row4 hv7; obtain ⟨x, z, sa, sl, sc, hx, hzk, ⟨zc0, zc1, zc2⟩, -⟩ := hz7.zone 0 (by omega); obtain rfl : (⟨3, 0, [S]⟩ : Zone) = z := (by simpa [exD2] using hzk); obtain ⟨x', z', sa', sl', sc', hx', hzk', ⟨zd0, zd1, zd2⟩, -⟩ := hz7.zone 1 (by omega); obtain rfl : (⟨1, 0, [S]⟩ : Zone) = z' := (by simpa [exD2] using hzk'); subst hx; obtain rfl := Option.some.inj hx'; have ze0 : w7.cell? x = some (.int .i64 3) := (by rw [show (0 : Nat) * 3 = 0 from rfl, addr0] at zc0; exact zc0); have ze1 : w7.cell? ⟨x.block, x.off + 3, none⟩ = some (.int .i64 1) := (by rw [show 1 * 3 = 2 + 1 from rfl, Addr.add_succ'] at zd0; exact zd0))))
  go_ret
  exact ⟨rfl, b7⟩
end Go.Proofs.Ytlmlmgegnnikeaa
