/- Texts that belong together, part 10. -/
import Derived.Test.YtlmlmgegnnikeaaPack9
import Derived.Laws.CopyRow

/- The walk of the program's Check. -/
namespace Go.Proofs.Ytlmlmgegnnikeaa
open Go.RowKit Plan ZnsMath

theorem configB_eq (D : Dev) : configB D = possibleB (D.zones.length : Int) D.size D.maxOpen D.maxActive := rfl
set_option maxHeartbeats 2000000 in
set_option maxRecDepth 20000 in
theorem check_zns (D : Dev) (a : Option Addr) (len cap : Nat) (w : World) (hz : IsZones w a len cap D.zones) :
    Calls Try.prog 21 #[devV D a len cap] w fun e w' => e = .returned (.int .i64 (checkE D)) ∧ Below w.heap.size w w' := by
  have hl := hz.length
  have hm := hz.len_le
  have hps := fun W => possible_any (len : Int) D.size D.maxOpen D.maxActive W
  have hcn := fun W (h : Below w.heap.size w W) => counts_any D a len cap W (hz.on h (Nat.le_refl _))
  have hR := fun W (h : Below w.heap.size w W) i (hi : i < len) => (hz.on h (Nat.le_refl _)).zone i hi
  have hcf := configB_eq D
  rw [hl] at hcf
  rw [← hcf] at hps
  have hRR : checkE D = if configB D = false then 11 else if rightsB D.zones D.size = false then 6 else if D.maxOpen < countO D.zones ∨ D.maxActive < countA D.zones then 6 else 0 := rfl
  generalize checkE D = RR at *
  generalize configB D = CB at *
  obtain ⟨size, op, act, Z⟩ := D
  change Calls Try.prog 21 #[.agg #[.int .i64 size, .int .i64 op, .int .i64 act, .slice a len cap]] w _
  try simp only at hps hcn hR hRR hl
  have HP := Lib.hid hps
  have HC := Lib.hid hcn
  have HR := Lib.hid hR
  have HRR := Lib.hid hRR
  have HL := Lib.hid hl
  clear hps hcn hR hRR hl hz hcf
  have HB1 := Lib.hid ((Below.refl w.heap.size w).alloc (Nat.le_refl _) (devRow size op act a len cap))
  cases CB with
  | false =>
    have hR11 : RR = 11 := by rw [HRR.out, if_pos rfl]
    subst hR11
    go_enter Try.func21, Try.ntmps21
    go_wp2_with (go_at_call 37; ((with_reducible refine (HP.out _).mono ?_); rintro e w1 ⟨rfl, rfl⟩))
    go_ret
    exact ⟨rfl, HB1.out⟩
  | true =>
    have HRR2 : Hid (RR = if rightsB Z size = false then 6 else if op < countO Z ∨ act < countA Z then 6 else 0) := Lib.hid (by rw [HRR.out, if_neg (by decide)])
    go_enter Try.func21, Try.ntmps21
    go_wp2_with (go_at_call 37; ((with_reducible refine (HP.out _).mono ?_); rintro e w1 ⟨rfl, rfl⟩))
    go_loopw [21] (fun c wr => ∃ k : Nat, c = .int .i64 k ∧ k ≤ len ∧ rightsB (Z.take k) size = true ∧ wr.heap[w.heap.size]? = some (.cells #[.int .i64 size, .int .i64 op, .int .i64 act, .slice a len cap] 24 (0, 0)) ∧ Below w.heap.size w wr) (fun c _ => len - (intOf c).toNat)
    case atStart => exact ⟨0, rfl, by omega, rfl, heap_alloc_new _ _, HB1.out⟩
    case round =>
      obtain ⟨k, rfl, hk, hrt, hbox, hbl⟩ := hrel
      obtain ⟨y, d0, d1, d2, d3⟩ := row4 hbox
      by_cases hlt : k < len
      · obtain ⟨x, z, sa, sl, sc, rfl, hzk, ⟨c0, c1, c2⟩, hzs⟩ := HR.out wr hbl k hlt
        have hkI : (k : Int) < (len : Int) := by omega
        have hnext : Z.take (k + 1) = Z.take k ++ [z] := by rw [List.take_add_one, hzk]; rfl
        have hsn := rightsB_snoc (Z.take k) z size
        rw [← hnext, hrt, Bool.true_and] at hsn
        have hbox2 := row_al hbox (zoneRow z.state z.durable sa sl sc)
        obtain ⟨y2, f0, f1, f2, f3⟩ := row4 hbox2
        have bl1 := hbl.alloc hbl.size (zoneRow z.state z.durable sa sl sc)
        have HV := Lib.hid (valid_any z size sa sl sc (wr.alloc (zoneRow z.state z.durable sa sl sc)) (hzs.on ((Below.refl _ _).alloc (Nat.le_refl _) _) (Nat.le_refl _)))
        cases hrz : rightB z size with
        | true =>
          rw [hrz] at hsn HV
          go_wp2_with (go_at_call 44; ((with_reducible refine HV.out.mono ?_); rintro e w4 ⟨rfl, hb4⟩; have hbox4 := row_on hb4 hbox2 y2))
          go_roundw
          case rel => exact ⟨k + 1, by go_num, by omega, hsn, hbox4, bl1.trans (hb4.mono bl1.size)⟩
          case measure => simp [intOf]; omega
        | false =>
          rw [hrz] at hsn HV
          have hbad : rightsB Z size = false := by
            rw [← List.take_append_drop (k + 1) Z]
            exact rightsB_more _ _ _ hsn
          have hR6 : RR = 6 := by rw [HRR2.out, if_pos hbad]
          subst hR6
          go_wp2_with (go_at_call 44; ((with_reducible refine HV.out.mono ?_); rintro e w4 ⟨rfl, hb4⟩))
          go_ret
          exact ⟨rfl, bl1.trans (hb4.mono bl1.size)⟩
      · obtain rfl : k = len := by omega
        have hfull : Z.take k = Z := List.take_of_length_le (by rw [HL.out]; exact Nat.le_refl _)
        rw [hfull] at hrt
        have HRR3 : Hid (RR = if op < countO Z ∨ act < countA Z then 6 else 0) := Lib.hid (by rw [HRR2.out, if_neg (by rw [hrt]; decide)])
        go_wp2_with (go_at_call 24; ((with_reducible refine (HC.out _ hbl).mono ?_); rintro e w4 ⟨rfl, hb4⟩; have hbox4 := row_on hb4 hbox y; obtain ⟨y4, d0, d1, d2, d3⟩ := row4 hbox4))
        all_goals
          go_ret
          refine ⟨ret_i64 ?_, hbl.trans (hb4.mono hbl.size)⟩
          rw [HRR3.out]
          first | rw [if_pos (by omega)] | rw [if_neg (by omega)]
end Go.Proofs.Ytlmlmgegnnikeaa

/- The walks of the program's find and online. -/
namespace Go.Proofs.Ytlmlmgegnnikeaa
open Go.RowKit Plan ZnsMath

theorem heap_first2 (w : World) (a b : Obj) : ((w.alloc a).alloc b).heap[w.heap.size]? = some a := row_al (heap_alloc_new w a) b
set_option maxHeartbeats 1000000 in
set_option maxRecDepth 20000 in
theorem find_ok (D : Dev) (x : Addr) (len cap i : Nat) (z : Zone) (sa : Option Addr) (sl sc : Nat) (w : World) (hz : IsZones w (some x) len cap D.zones) (hi : i < len) (hE : checkE D = 0) (hza : ZoneAt w x i z sa sl sc) :
    Calls Try.prog 46 #[devV D (some x) len cap, .int .i64 (i : Int)] w fun e w' => e = .returned (.tuple #[zoneV z sa sl sc, .int .i64 0]) ∧ Below w.heap.size w w' := by
  have hck := fun W (h : Below w.heap.size w W) => check_zns D (some x) len cap W (hz.on h (Nat.le_refl _))
  have hxb := zone_block hza
  have hiI : (i : Int) < (len : Int) := by omega
  have hA : Below w.heap.size w ((w.alloc (devRow D.size D.maxOpen D.maxActive (some x) len cap)).alloc (zoneRow 0 0 none 0 0)) := ((Below.refl _ _).alloc (Nat.le_refl _) _).alloc (by simp) _
  rw [hE] at hck
  have HK := Lib.hid hck
  have HA := Lib.hid hA
  have HZ := Lib.hid hza
  clear hck hA hE hza hz
  obtain ⟨size, op, act, Z⟩ := D
  obtain ⟨st, du, L⟩ := z
  try simp only at HZ
  go_enter Try.func46, Try.ntmps46
  go_wp2_with (first
    | (go_at_call 21; ((with_reducible refine (HK.out _ HA.out).mono ?_); rintro e w1 ⟨rfl, hb1⟩; have hx1 := row_on hb1 (heap_first2 w _ _) (by simp only [World.size_alloc]; omega); have hr1 := row_on hb1 (heap_second w _ _) (by simp only [World.size_alloc]; omega); obtain ⟨y1, d0, d1, d2, d3⟩ := row4 hx1; have b1 := HA.out.trans (hb1.mono (by simp only [World.size_alloc]; omega)); obtain ⟨zc0, zc1, zc2⟩ := HZ.out.on b1 hxb))
    | ((with_reducible refine Plan.store_lit 48 (.tmp 4) _ (w.heap.size + 1) ?_ hr1 ?_ ?_ ?_ ?_ ?_ ?_); rotate_left; (· rfl); (· rfl); (· exact zone_info); (· rfl); (· simp [Value.oneCell']); simp only [Act.put]))
  refine bodyPost_ret (Plan.results_cell_tmp (p := 4) (q := 5) rfl _ _ _ _ _ _ _ rfl (setRow_heap _ _ _ _ _ _ hr1) Try.underlying48 rfl zone_info) rfl ⟨rfl, below_setRow b1 (by omega) _⟩
set_option maxHeartbeats 1000000 in
set_option maxRecDepth 20000 in
theorem find_no (D : Dev) (a : Option Addr) (len cap : Nat) (k : Int) (w : World) (hz : IsZones w a len cap D.zones) (hE : zoneE D k ≠ 0) :
    Calls Try.prog 46 #[devV D a len cap, .int .i64 k] w fun e w' => e = .returned (.tuple #[.agg #[.int .i64 0, .int .i64 0, .slice none 0 0], .int .i64 (zoneE D k)]) ∧ Below w.heap.size w w' := by
  have hl := hz.length
  have hck := fun W (h : Below w.heap.size w W) => check_zns D a len cap W (hz.on h (Nat.le_refl _))
  have hA : Below w.heap.size w ((w.alloc (devRow D.size D.maxOpen D.maxActive a len cap)).alloc (zoneRow 0 0 none 0 0)) := ((Below.refl _ _).alloc (Nat.le_refl _) _).alloc (by simp) _
  have hre : zoneE D k = if checkE D ≠ 0 then checkE D else if k < 0 ∨ (D.zones.length : Int) ≤ k then 5 else 0 := rfl
  rw [hl] at hre
  generalize zoneE D k = ZE at *
  generalize checkE D = CE at *
  have HK := Lib.hid hck
  have HA := Lib.hid hA
  have HRE := Lib.hid hre
  clear hck hA hre hl hz
  obtain ⟨size, op, act, Z⟩ := D
  change Calls Try.prog 46 #[.agg #[.int .i64 size, .int .i64 op, .int .i64 act, .slice a len cap], .int .i64 k] w fun e w' => e = .returned (.tuple #[.agg #[.int .i64 0, .int .i64 0, .slice none 0 0], .int .i64 ZE]) ∧ Below w.heap.size w w'
  by_cases h1 : CE = 0
  · subst h1
    have h2 : k < 0 ∨ (len : Int) ≤ k := Classical.byContradiction fun h => hE (by rw [HRE.out, if_neg (by decide), if_neg h])
    have hend : ZE = 5 := by rw [HRE.out, if_neg (by decide), if_pos h2]
    subst hend
    have h3 : k < 0 ∨ (¬ k < 0 ∧ (len : Int) ≤ k) := by omega
    clear h2 hE
    rcases h3 with h2 | ⟨h2, h3⟩
    all_goals
      go_enter Try.func46, Try.ntmps46
      go_wp2_with (first
        | (go_at_call 21; ((with_reducible refine (HK.out _ HA.out).mono ?_); rintro e w1 ⟨rfl, hb1⟩; have hx1 := row_on hb1 (heap_first2 w _ _) (by simp only [World.size_alloc]; omega); have hr1 := row_on hb1 (heap_second w _ _) (by simp only [World.size_alloc]; omega); obtain ⟨y1, d0, d1, d2, d3⟩ := row4 hx1; have b1 := HA.out.trans (hb1.mono (by simp only [World.size_alloc]; omega))))
        | ((with_reducible refine Plan.store_lit 48 (.tmp 4) _ (w.heap.size + 1) ?_ hr1 ?_ ?_ ?_ ?_ ?_ ?_); rotate_left; (· rfl); (· rfl); (· exact zone_info); (· rfl); (· simp [Value.oneCell']); simp only [Act.put]))
      refine bodyPost_ret (Plan.results_cell_tmp (p := 4) (q := 5) rfl _ _ _ _ _ _ _ rfl (setRow_heap _ _ _ _ _ _ hr1) Try.underlying48 rfl zone_info) rfl ⟨rfl, below_setRow b1 (by omega) _⟩
  · have hend : ZE = CE := by rw [HRE.out, if_pos h1]
    subst hend
    have h2 : (ZE != 0) = true := by simp [h1]
    go_enter Try.func46, Try.ntmps46
    go_wp2_with (first
      | (go_at_call 21; ((with_reducible refine (HK.out _ HA.out).mono ?_); rintro e w1 ⟨rfl, hb1⟩; have hx1 := row_on hb1 (heap_first2 w _ _) (by simp only [World.size_alloc]; omega); have hr1 := row_on hb1 (heap_second w _ _) (by simp only [World.size_alloc]; omega); have b1 := HA.out.trans (hb1.mono (by simp only [World.size_alloc]; omega))))
      | ((with_reducible refine Plan.store_lit 48 (.tmp 4) _ (w.heap.size + 1) ?_ hr1 ?_ ?_ ?_ ?_ ?_ ?_); rotate_left; (· rfl); (· rfl); (· exact zone_info); (· rfl); (· simp [Value.oneCell']); simp only [Act.put]))
    refine bodyPost_ret (Plan.results_cell_tmp (p := 4) (q := 5) rfl _ _ _ _ _ _ _ rfl (setRow_heap _ _ _ _ _ _ hr1) Try.underlying48 rfl zone_info) rfl ⟨rfl, below_setRow b1 (by omega) _⟩
end Go.Proofs.Ytlmlmgegnnikeaa

/- Zoned devices as plain lists: how the numbers of open and of active zones change. -/
namespace Go.Proofs.Ytlmlmgegnnikeaa
open ZnsMath

theorem countO_cons (y : Zone) (Z : List Zone) : countO (y :: Z) = (if openB y.state = true then 1 else 0) + countO Z := by
  cases h : openB y.state <;> simp [countO, h]; omega
theorem countA_cons (y : Zone) (Z : List Zone) : countA (y :: Z) = (if activeB y.state = true then 1 else 0) + countA Z := by
  cases h : activeB y.state <;> simp [countA, h]; omega
theorem countO_set : ∀ (Z : List Zone) (k : Nat) (y z : Zone), Z[k]? = some y → countO (Z.set k z) + (if openB y.state = true then 1 else 0) = countO Z + (if openB z.state = true then 1 else 0)
  | [], k, y, z, h => by cases h
  | x :: Z, 0, y, z, h => by
    obtain rfl : x = y := by simpa using h
    rw [List.set_cons_zero, countO_cons, countO_cons]
    omega
  | x :: Z, k + 1, y, z, h => by
    have ih := countO_set Z k y z (by simpa using h)
    rw [List.set_cons_succ, countO_cons, countO_cons]
    omega
theorem countA_set : ∀ (Z : List Zone) (k : Nat) (y z : Zone), Z[k]? = some y → countA (Z.set k z) + (if activeB y.state = true then 1 else 0) = countA Z + (if activeB z.state = true then 1 else 0)
  | [], k, y, z, h => by cases h
  | x :: Z, 0, y, z, h => by
    obtain rfl : x = y := by simpa using h
    rw [List.set_cons_zero, countA_cons, countA_cons]
    omega
  | x :: Z, k + 1, y, z, h => by
    have ih := countA_set Z k y z (by simpa using h)
    rw [List.set_cons_succ, countA_cons, countA_cons]
    omega
theorem check_parts {D : Dev} (h : checkE D = 0) : configB D = true ∧ rightsB D.zones D.size = true ∧ (countO D.zones : Int) ≤ D.maxOpen ∧ (countA D.zones : Int) ≤ D.maxActive := by
  unfold checkE at h
  split at h
  · cases h
  · rename_i h1
    split at h
    · cases h
    · rename_i h2
      split at h
      · cases h
      · exact ⟨by simpa using h1, by simpa using h2, by omega, by omega⟩
theorem check_of {D : Dev} (h1 : configB D = true) (h2 : rightsB D.zones D.size = true) (h3 : (countO D.zones : Int) ≤ D.maxOpen) (h4 : (countA D.zones : Int) ≤ D.maxActive) : checkE D = 0 := by
  unfold checkE
  rw [if_neg (by simp [h1]), if_neg (by simp [h2]), if_neg (by omega)]
theorem config_parts {D : Dev} (h : configB D = true) : 1 ≤ D.zones.length ∧ D.zones.length ≤ 32 ∧ 3 ≤ D.size ∧ D.size ≤ 64 ∧ 1 ≤ D.maxOpen ∧ D.maxOpen ≤ D.maxActive ∧ D.maxActive ≤ D.zones.length := by
  unfold configB at h
  simp only [decide_eq_true_eq] at h
  omega
/-- closing a zone that an append opened -/
theorem closing_counts {Z : List Zone} {k : Nat} {y : Zone} (h : Z[k]? = some y) (hs : y.state = 1) : countO (Z.set k (shut y)) + 1 = countO Z ∧ countA (Z.set k (shut y)) ≤ countA Z := by
  have h1 := countO_set Z k y (shut y) h
  have h2 := countA_set Z k y (shut y) h
  have a1 : openB y.state = true := by rw [hs]; rfl
  have a2 : activeB y.state = true := by rw [hs]; rfl
  rw [a1] at h1
  rw [a2] at h2
  have a3 : openB (shut y).state = false := by
    unfold shut
    by_cases h : y.sectors.length = 0 <;> simp [h, openB]
  rw [a3] at h1
  simp only [if_true] at h1 h2
  refine ⟨by simpa using h1, ?_⟩
  split at h2 <;> omega
end Go.Proofs.Ytlmlmgegnnikeaa

/- The example of the chapter, as plain lists. -/
namespace Go.Proofs.Ytlmlmgegnnikeaa
open ZnsMath

def exD0 : Dev := ⟨3, 1, 2, [empty, empty]⟩
def exD1 (S : ByteArray) : Dev := ⟨3, 1, 2, [⟨1, 0, [S]⟩, empty]⟩
def exD2 (S : ByteArray) : Dev := ⟨3, 1, 2, [⟨3, 0, [S]⟩, ⟨1, 0, [S]⟩]⟩
theorem ex_new : newE 2 3 1 2 = 0 ∧ newR 2 3 1 2 = exD0 := by
  have h : newE 2 3 1 2 = 0 := by decide
  exact ⟨h, by unfold newR; rw [if_pos h]; rfl⟩
theorem ex_one {S : ByteArray} (h : S.size = 40) : appendE exD0 0 S = 0 ∧ appendO exD0 0 S = 0 ∧ appendR exD0 0 S = exD1 S := by
  have hz : zoneE exD0 0 = 0 := by decide
  have hr : roomE exD0 0 = 0 := by decide
  have he : appendE exD0 0 S = 0 := by
    unfold appendE
    rw [if_neg (by simp [hz]), if_neg (by simp [h]), if_neg (by decide), if_neg (by decide), if_neg (by decide)]
    exact hr
  have hd : ready exD0 0 = exD0 := by unfold ready; rw [if_neg (by decide)]; rfl
  refine ⟨he, ?_, ?_⟩
  · unfold appendO; rw [if_pos he, hd]; rfl
  · unfold appendR; rw [if_pos he, hd]; rfl
theorem ex_check1 {S : ByteArray} (h : S.size = 40) : checkE (exD1 S) = 0 := by
  refine check_of rfl ?_ (show ((1 : Nat) : Int) ≤ 1 by decide) (show ((1 : Nat) : Int) ≤ 2 by decide)
  simp [exD1, rightsB, rightB, sizesB, h, empty]
theorem ex_check2 {S : ByteArray} (h : S.size = 40) : checkE (exD2 S) = 0 := by
  refine check_of rfl ?_ (show ((1 : Nat) : Int) ≤ 1 by decide) (show ((2 : Nat) : Int) ≤ 2 by decide)
  simp [exD2, rightsB, rightB, sizesB, h]
theorem ex_two {S : ByteArray} (h : S.size = 40) : appendE (exD1 S) 1 S = 0 ∧ appendO (exD1 S) 1 S = 0 ∧ appendR (exD1 S) 1 S = exD2 S := by
  have hz : zoneE (exD1 S) 1 = 0 := by unfold zoneE; rw [ex_check1 h]; rfl
  have hr : roomE (exD1 S) 1 = 0 := rfl
  have he : appendE (exD1 S) 1 S = 0 := by
    unfold appendE
    rw [if_neg (by simp [hz]), if_neg (by simp [h])]
    exact hr
  refine ⟨he, ?_, ?_⟩
  · unfold appendO; rw [if_pos he]; rfl
  · unfold appendR; rw [if_pos he]; rfl
theorem ex_read {S : ByteArray} (h : S.size = 40) : readE (exD2 S) 0 0 = 0 ∧ readR (exD2 S) 0 0 = S := by
  have hb : beginE (exD2 S) 0 = 0 := by
    unfold beginE zoneE
    rw [ex_check2 h]
    rfl
  have he : readE (exD2 S) 0 0 = 0 := by
    unfold readE
    rw [hb]
    rfl
  exact ⟨he, by unfold readR; rw [if_pos he]; rfl⟩
end Go.Proofs.Ytlmlmgegnnikeaa

/- The walk of the program's with: the zones are copied, one is changed. -/
namespace Go.Proofs.Ytlmlmgegnnikeaa
open Go.RowKit Plan ZnsMath

theorem run_copy_whole {P : Program} (w : World) (dT sT ty elem : TypeId) (k g n dCap : Nat) (a : Addr) (sCap : Nat) (cur : Array Value) (t : TypeId) (cs : List Value)
    (hu : P.underlying dT = some (.slice elem)) (hs : (P.info? elem).map (·.size) = some k)
    (hg : w.heap[g]? = some (.cells cur t (0, 0))) (hc : cs.length = n * k) (hz : cur.size = cs.length)
    (hsrc : ∀ j v, cs[j]? = some v → w.cell? (a.add j) = some v) (h1 : ∀ v ∈ cs, v.oneCell' = true) :
    (Builtin.copy_ #[dT, sT] ty #[.slice (some ⟨g, 0, none⟩) n dCap, .slice (some a) n sCap]).run P w = .ok (goInt n) (w.setRow g cs.toArray) := by
  have hl := run_loadCells_list (P := P) w a cs hsrc
  have hst := run_storeCells_at P g 0 t cs 0 cur w hg (by omega) h1
  have hst2 : (cur.toList.take 0 ++ cs ++ cur.toList.drop (0 + 0 + cs.length)).toArray = cs.toArray := by
    rw [List.drop_of_length_le (by simp; omega)]; simp
  have hst3 : (storeCells ⟨g, 0, none⟩ cs 0).run P w = .ok () (w.setRow g cs.toArray) := by rw [hst]; congr 2
  cases hq : P.info? elem with
  | none => simp [hq] at hs
  | some i =>
    have hi : i.size = k := by simpa [hq] using hs
    simp [Builtin.copy_, run_underlying hu, Builtin.lenOf, Builtin.firstCells, sizeOf, typeInfo, hq, hi, ← hc, hl, hst3]
theorem wpList_copy_whole {P : Program} {w : World} {ops : Array Oper} {rest : List Oper} {o : Oper} {a : Act} {Q : Exit → Act → World → Prop} (hgd : o.guard = none) (d s : Operand) (dT sT : TypeId)
    (ho : o.op = .call { callee := .builtin .copy, args := #[d, s], argTypes := #[dT, sT] }) (elem : TypeId) (k : Nat) (hu : P.underlying dT = some (.slice elem)) (hsz : (P.info? elem).map (·.size) = some k)
    (g n dCap : Nat) (ad : Addr) (sCap : Nat) (hd : a.eval d = .slice (some ⟨g, 0, none⟩) n dCap) (hs : a.eval s = .slice (some ad) n sCap)
    (cur : Array Value) (t : TypeId) (hg : w.heap[g]? = some (.cells cur t (0, 0))) (cs : List Value) (hc : cs.length = n * k) (hz : cur.size = cs.length)
    (hsrc : ∀ j v, cs[j]? = some v → w.cell? (ad.add j) = some v) (h1 : ∀ v ∈ cs, v.oneCell' = true)
    (h : ∀ w', w' = w.setRow g cs.toArray → wpList P ops Q rest (a.put o.dst (goInt n)) w') : wpList P ops Q (o :: rest) a w := by
  refine wpList_plain hgd fun K hK => ?_
  have hrun := run_copy_whole (P := P) w dT sT o.type elem k g n dCap ad sCap cur t cs hu hsz hg hc hz hsrc h1
  unfold Oper.wp
  simp [execOp, ho, resolve, invoke, builtin, hd, hs, hrun, Result.andThen]
  exact hK _ _ (h _ rfl)
theorem copy_op {P : Program} {w : World} {ops : Array Oper} {rest : List Oper} {a : Act} {Q : Exit → Act → World → Prop} (dst : Option Tmp) (d s : Operand) (dT sT : TypeId) {t' : TypeId} {pos : String} {after : Array Edge}
    (elem : TypeId) (k : Nat) (hu : P.underlying dT = some (.slice elem)) (hsz : (P.info? elem).map (·.size) = some k)
    (g n dCap : Nat) (ad : Addr) (sCap : Nat) (hd : a.eval d = .slice (some ⟨g, 0, none⟩) n dCap) (hs : a.eval s = .slice (some ad) n sCap)
    (cur : Array Value) (t : TypeId) (hg : w.heap[g]? = some (.cells cur t (0, 0))) (cs : List Value) (hc : cs.length = n * k) (hz : cur.size = cs.length)
    (hsrc : ∀ j v, cs[j]? = some v → w.cell? (ad.add j) = some v) (h1 : ∀ v ∈ cs, v.oneCell' = true)
    (h : ∀ w', w' = w.setRow g cs.toArray → wpList P ops Q rest (a.put dst (goInt n)) w') :
    wpList P ops Q (⟨dst, .call { callee := .builtin .copy, args := #[d, s], argTypes := #[dT, sT] }, t', pos, after, none⟩ :: rest) a w :=
  wpList_copy_whole rfl d s dT sT rfl elem k hu hsz g n dCap ad sCap hd hs cur t hg cs hc hz hsrc h1 h
/-- the row that was made, and the other blocks -/
theorem made_facts {w3 w1 : World} {H n : Nat} {o0 o1 o2 : Obj} {xs : List Value} (r0 : w3.heap[H]? = some o0) (r1 : w3.heap[H + 1]? = some o1) (r2 : w3.heap[H + 1 + 1]? = some o2) (hg : w3.grownBy w1 none)
    (ho : w1.ownsRow (H + 1 + 1 + 1) 48 3 (.slice (some ⟨H + 1 + 1 + 1, 0, none⟩) n n) n xs) :
    w1.heap[H]? = some o0 ∧ w1.heap[H + 1]? = some o1 ∧ w1.heap[H + 1 + 1]? = some o2 ∧ ∃ cur, w1.heap[H + 1 + 1 + 1]? = some (.cells cur 48 (0, 0)) ∧ cur.size = n * 3 ∧ n ≤ maxLen := by
  refine ⟨(hg.block H (lt_of_block r0) (by simp)).trans r0, (hg.block _ (lt_of_block r1) (by simp)).trans r1, (hg.block _ (lt_of_block r2) (by simp)).trans r2, ?_⟩
  rcases ho.2 with ⟨h, _⟩ | ⟨g, cap, cur, hv, hb, hg, h1, h2, h3, h4⟩
  · cases h
  · cases hv
    exact ⟨cur, hg, h3, h2⟩
/-- .. behind the copy -/
theorem copied_facts {w w1 w2 : World} {H n : Nat} {o0 o1 o2 : Obj} {cur : Array Value} {C : List Value} (r0 : w1.heap[H]? = some o0) (r1 : w1.heap[H + 1]? = some o1) (r2 : w1.heap[H + 1 + 1]? = some o2) (hg : w1.heap[H + 1 + 1 + 1]? = some (.cells cur 48 (0, 0))) (hn : n ≤ maxLen) (hC : C.length = n * 3)
    (hb : Below H w w1) (e : w2 = w1.setRow (H + 1 + 1 + 1) C.toArray) :
    w2.heap[H]? = some o0 ∧ w2.heap[H + 1]? = some o1 ∧ w2.heap[H + 1 + 1]? = some o2 ∧ w2.ownsRow (H + 1 + 1 + 1) 48 3 (.slice (some ⟨H + 1 + 1 + 1, 0, none⟩) n n) n C ∧ Below H w w2 := by
  subst e
  refine ⟨(setRow_other _ _ _ _ (by omega)).trans r0, (setRow_other _ _ _ _ (by omega)).trans r1, (setRow_other _ _ _ _ (by omega)).trans r2, ⟨hC, .inr ⟨_, n, C.toArray, rfl, Nat.le_refl _, setRow_heap _ _ _ _ _ _ hg, Nat.le_refl _, hn, by simpa using hC, ?_⟩⟩, below_setRow hb (by omega) _⟩
  rw [← hC]
  simp
theorem put_there {w : World} {B g n c k : Nat} {F : Nat → Prop} {C : List Value} {Z : List Zone} {W : World} (ho : w.ownsRow B 48 3 (.slice (some ⟨g, 0, none⟩) n c) n C) (hz : ZCells W F C Z) (hk : k < Z.length) : w.there g (k * 3) 3 := by
  obtain ⟨u0, u1, u2, p0, p1, p2⟩ := three_cells ho hz hk
  intro j hj
  have hf := owns_free5 ho (k * 3 + j)
  have : j = 0 ∨ j = 1 ∨ j = 2 := by omega
  rcases this with rfl | rfl | rfl
  · exact ⟨by rw [Nat.add_zero, p0]; rfl, hf⟩
  · exact ⟨by rw [p1]; rfl, hf⟩
  · exact ⟨by rw [p2]; rfl, hf⟩
theorem put_end {w w2 : World} {F : Nat → Prop} {len k : Nat} {C : List Value} {Z : List Zone} {st du : Int} {L : List ByteArray} {sa : Option Addr} {sl sc : Nat} {o0 o2 : Obj}
    (q0 : w2.heap[w.heap.size]? = some o0) (q2 : w2.heap[w.heap.size + 1 + 1]? = some o2)
    (ho : w2.ownsRow (w.heap.size + 1 + 1 + 1) 48 3 (.slice (some ⟨w.heap.size + 1 + 1 + 1, 0, none⟩) len len) len C) (hz : ZCells w F C Z) (hk : k < Z.length) (b2 : Below w.heap.size w w2)
    (hs : StrsIn w F sa sl sc L) (w9 : World) (e : w9 = w2.setCells (w.heap.size + 1 + 1 + 1) (k * 3) [.int .i64 st, .int .i64 du, .slice sa sl sc]) :
    w9.heap[w.heap.size]? = some o0 ∧ (∀ u, (w9.setCell ⟨w.heap.size, 3, none⟩ u).heap[w.heap.size + 1 + 1]? = some o2) ∧ ∀ u cs, ZonesIn ((w9.setCell ⟨w.heap.size, 3, none⟩ u).setRow (w.heap.size + 1 + 1) cs) (Plus F w.heap.size) (some ⟨w.heap.size + 1 + 1 + 1, 0, none⟩) len len (Z.set k ⟨st, du, L⟩) ∧ Below w.heap.size w ((w9.setCell ⟨w.heap.size, 3, none⟩ u).setRow (w.heap.size + 1 + 1) cs) := by
  generalize hg7 : w.heap.size + 1 + 1 + 1 = g7 at *
  have e : w9 = ((w2.setCell ⟨g7, k * 3, none⟩ (.int .i64 st)).setCell ⟨g7, k * 3 + 1, none⟩ (.int .i64 du)).setCell ⟨g7, k * 3 + 1 + 1, none⟩ (.slice sa sl sc) := e
  have o9 := owns_cell (owns_cell (owns_cell ho (k * 3) (.int .i64 st)) (k * 3 + 1) (.int .i64 du)) (k * 3 + 1 + 1) (.slice sa sl sc)
  have b9 := ((b2.setCell (show w.heap.size ≤ (⟨g7, k * 3, none⟩ : Addr).block by show w.heap.size ≤ g7; omega) (.int .i64 st)).setCell (show w.heap.size ≤ (⟨g7, k * 3 + 1, none⟩ : Addr).block by show w.heap.size ≤ g7; omega) (.int .i64 du)).setCell (show w.heap.size ≤ (⟨g7, k * 3 + 1 + 1, none⟩ : Addr).block by show w.heap.size ≤ g7; omega) (.slice sa sl sc)
  have hfar : ∀ j, j ≠ g7 → (((w2.setCell ⟨g7, k * 3, none⟩ (.int .i64 st)).setCell ⟨g7, k * 3 + 1, none⟩ (.int .i64 du)).setCell ⟨g7, k * 3 + 1 + 1, none⟩ (.slice sa sl sc)).heap[j]? = w2.heap[j]? := fun j hj =>
    (Below.heap_setCell _ _ _ j hj).trans ((Below.heap_setCell _ _ _ j hj).trans (Below.heap_setCell _ _ _ j hj))
  rw [← e] at o9 b9 hfar
  clear e
  refine ⟨(hfar _ (by omega)).trans q0, fun u => (Below.heap_setCell w9 ⟨w.heap.size, 3, none⟩ u (w.heap.size + 1 + 1) (show w.heap.size + 1 + 1 ≠ w.heap.size by omega)).trans ((hfar _ (by omega)).trans q2), fun u cs => ?_⟩
  have b10 := below_setRow (b9.setCell (show w.heap.size ≤ (⟨w.heap.size, 3, none⟩ : Addr).block from Nat.le_refl _) u) (show w.heap.size ≤ w.heap.size + 1 + 1 by omega) cs
  refine ⟨?_, b10⟩
  have o10 := owns_other (H := w.heap.size + 1 + 1) (cs := cs) (ownsRow_setCell_other o9 (a := ⟨w.heap.size, 3, none⟩) (fun e => by have := Option.some.inj (show some g7 = some w.heap.size from e); omega) u) (by omega)
  obtain ⟨-, a', cap', heq, h⟩ := owns_zones (F := Plus F w.heap.size) o10 (((hz.set k hk ⟨st, du, L⟩ hs).on (Agree.below b10)).mono (fun _ _ hb => .inl hb)) (fun b e => .inr (by have := Option.some.inj (show some g7 = some b from e); omega))
  cases heq
  exact h
set_option maxHeartbeats 1000000 in
set_option maxRecDepth 20000 in
theorem with_any (F : Nat → Prop) (D : Dev) (a : Option Addr) (len cap k : Nat) (z : Zone) (sa : Option Addr) (sl sc : Nat) (w : World) (hz : ZonesIn w F a len cap D.zones) (hk : k < len) (hm : len ≤ 1000000) (hs : StrsIn w F sa sl sc z.sectors) :
    Calls Try.prog 48 #[devV D a len cap, .int .i64 k, zoneV z sa sl sc] w fun e w' => ∃ a' cap', e = .returned (devV (withZ D k z) a' len cap') ∧ ZonesIn w' (Plus F w.heap.size) a' len cap' (D.zones.set k z) ∧ Below w.heap.size w w' := by
  have hl := hz.is.length
  obtain ⟨size, op, act, Z⟩ := D
  obtain ⟨st, du, L⟩ := z
  change Calls Try.prog 48 #[.agg #[.int .i64 size, .int .i64 op, .int .i64 act, .slice a len cap], .int .i64 k, .agg #[.int .i64 st, .int .i64 du, .slice sa sl sc]] w fun e w' => ∃ a' cap', e = .returned (.agg #[.int .i64 size, .int .i64 op, .int .i64 act, .slice a' len cap']) ∧ ZonesIn w' (Plus F w.heap.size) a' len cap' (Z.set k ⟨st, du, L⟩) ∧ Below w.heap.size w w'
  try simp only at hz hl hs
  obtain ⟨x, rfl⟩ : ∃ x, a = some x := by
    rcases hz with ⟨_, rfl, _, _⟩ | ⟨x, rfl, _⟩
    · omega
    · exact ⟨x, rfl⟩
  obtain ⟨i1, hi1, hy0, hy1, hy2⟩ := info_parts zone_info6
  have hkI : (k : Int) < (len : Int) := by omega
  have hB3 := (((Below.refl w.heap.size w).alloc (Nat.le_refl _) (devRow size op act (some x) len cap)).alloc (by simp) (zoneRow st du sa sl sc)).alloc (by simp; omega) (devRow 0 0 0 none 0 0)
  obtain ⟨C, hC1, hC2', hC3⟩ := hz.cells
  have hC2 := fun W (hb : Below w.heap.size w W) j u (hu : C[j]? = some u) => (hb.cell (block_lt_of_cell (hC2' j u hu))).trans (hC2' j u hu)
  have r0 := row_al (row_al (heap_alloc_new w (devRow size op act (some x) len cap)) (zoneRow st du sa sl sc)) (devRow 0 0 0 none 0 0)
  have r1 := row_al (heap_second w (devRow size op act (some x) len cap) (zoneRow st du sa sl sc)) (devRow 0 0 0 none 0 0)
  have r2 := heap_third w (devRow size op act (some x) len cap) (zoneRow st du sa sl sc) (devRow 0 0 0 none 0 0)
  have HC1 := Lib.hid hC1
  have HC2 := Lib.hid hC2
  have HC3 := Lib.hid hC3
  have HB3 := Lib.hid hB3
  have R0 := Lib.hid r0
  have R1 := Lib.hid r1
  have R2 := Lib.hid r2
  have HS := Lib.hid hs
  clear hC1 hC2 hC2' hC3 hB3 r0 r1 r2 hs hz
  go_enter Try.func48, Try.ntmps48
  go_wp2_with (first
    | (at_make; refine wpList_make_full _ rfl _ _ 22 rfl (w.heap.size + 1 + 1 + 1) 48 i1 _ 3 Try.underlying22 hi1 hy0 hy1 .i64 .i64 (len : Int) (len : Int) len rfl rfl rfl rfl (by rw [hy2]; omega) (by unfold maxLen; omega) (by simp) ?_; intro w1 hown1 hgrow1; simp only [World.size_alloc] at hown1; obtain ⟨q0, q1, q2, cur, q3, qs, qm⟩ := made_facts R0.out R1.out R2.out hgrow1 hown1; have b1 := HB3.out.grown hgrow1 (by simp only [World.size_alloc]; omega) (fun k hk => by cases hk); obtain ⟨y1, d0, d1, d2, d3⟩ := row4 q0)
    | ((with_reducible refine copy_op (some 15) (.tmp 12) (.tmp 14) 22 22 48 3 Try.underlying22 zone_info (w.heap.size + 1 + 1 + 1) len len x cap ?_ ?_ cur 48 q3 C ?_ ?_ (HC2.out _ b1) HC3.out ?_); (· rfl); (· rfl); (· rw [HC1.out.1, hl]); (· rw [qs, HC1.out.1, hl]); simp only [Act.put, List.setIfInBounds_toArray, List.set_cons_zero, List.set_cons_succ]; intro w2 e2; obtain ⟨p0, p1, p2, p3, b2⟩ := copied_facts q0 q1 q2 q3 qm (by rw [HC1.out.1, hl]) b1 e2; clear e2; obtain ⟨y2, e0, e1, e2, e3⟩ := row4 p0; obtain ⟨y3, l0, l1, l2⟩ := row3 p1; have T8 := put_there p3 HC1.out (by rw [hl]; exact hk); have E9 := Lib.hid (put_end (k := k) (st := st) (du := du) p0 p2 p3 HC1.out (by rw [hl]; exact hk) b2 HS.out))
    | ((with_reducible refine idx_store_zone 22 48 19 (.tmp 16) (.tmp 17) (.tmp 18) (w.heap.size + 1 + 1 + 1) (k * 3) (.int .i64 st) (.int .i64 du) (.slice sa sl sc) ?_ ?_ ?_ T8 ?_ ?_ ?_); (· go_simp); (· rfl); (· rfl); (· exact zone_info); (· simp [Value.oneCell']); intro w9 e9; obtain ⟨n0, n2, n3⟩ := E9.out w9 e9; clear e9; obtain ⟨z0, m0, m1, m2, m3⟩ := row4 n0; have f0 := row_free n0 3; simp only [Act.put, List.setIfInBounds_toArray, List.set_cons_zero, List.set_cons_succ])
    | ((with_reducible refine Plan.store_lit 24 (.tmp 6) _ (w.heap.size + 1 + 1) ?_ (n2 _) ?_ ?_ ?_ ?_ ?_ ?_); rotate_left; (· rfl); (· rfl); (· exact dev_info); (· rfl); (· simp [Value.oneCell']); simp only [Act.put]))
  exact bodyPost_ret (results_cell_row rfl _ _ _ _ _ _ _ rfl (setRow_heap _ _ _ _ _ _ (n2 _)) Try.underlying24 rfl dev_info) rfl ⟨_, _, rfl, (n3 _ _).1, (n3 _ _).2⟩
end Go.Proofs.Ytlmlmgegnnikeaa

/- The walks of the program's online, Reset, Finish, Close, Read. -/
namespace Go.Proofs.Ytlmlmgegnnikeaa
open Go.RowKit Plan ZnsMath

set_option maxHeartbeats 2000000 in
set_option maxRecDepth 20000 in
theorem online_ok (D : Dev) (x : Addr) (len cap i : Nat) (z : Zone) (sa : Option Addr) (sl sc : Nat) (w : World) (hz : IsZones w (some x) len cap D.zones) (hi : i < len) (hE : checkE D = 0) (hza : ZoneAt w x i z sa sl sc) (h5 : z.state ≠ 5) :
    Calls Try.prog 45 #[devV D (some x) len cap, .int .i64 (i : Int)] w fun e w' => e = .returned (.tuple #[zoneV z sa sl sc, .int .i64 0]) ∧ Below w.heap.size w w' := by
  have hxb := zone_block hza
  have hfd := fun W (h : Below w.heap.size w W) => find_ok D x len cap i z sa sl sc W (hz.on h (Nat.le_refl _)) hi hE (hza.on h hxb)
  have hA : Below w.heap.size w ((w.alloc (devRow D.size D.maxOpen D.maxActive (some x) len cap)).alloc (zoneRow 0 0 none 0 0)) := ((Below.refl _ _).alloc (Nat.le_refl _) _).alloc (by simp) _
  have HK := Lib.hid hfd
  have HA := Lib.hid hA
  have e5 : (z.state == 5) = false := by simp [h5]
  clear hfd hA hE hza hz h5
  obtain ⟨size, op, act, Z⟩ := D
  obtain ⟨st, du, L⟩ := z
  change Calls Try.prog 45 #[.agg #[.int .i64 size, .int .i64 op, .int .i64 act, .slice (some x) len cap], .int .i64 (i : Int)] w fun e w' => e = .returned (.tuple #[.agg #[.int .i64 st, .int .i64 du, .slice sa sl sc], .int .i64 0]) ∧ Below w.heap.size w w'
  try simp only at e5
  go_enter Try.func45, Try.ntmps45
  go_wp2_with (first
    | (go_at_call 46; ((with_reducible refine (HK.out _ HA.out).mono ?_); rintro e w1 ⟨rfl, hb1⟩; have hx1 := row_al (row_on hb1 (heap_first2 w _ _) (by simp only [World.size_alloc]; omega)) (zoneRow st du sa sl sc); have hr1 := row_al (row_on hb1 (heap_second w _ _) (by simp only [World.size_alloc]; omega)) (zoneRow st du sa sl sc); obtain ⟨y0, d0, d1, d2, d3⟩ := row4 (row_on hb1 (heap_first2 w _ _) (by simp only [World.size_alloc]; omega)); obtain ⟨y1, f0, f1, f2, f3⟩ := row4 hx1; have hq1 := heap_alloc_new w1 (zoneRow st du sa sl sc); obtain ⟨yq, g0, g1, g2⟩ := row3 hq1; have b0 := HA.out.trans (hb1.mono (by simp only [World.size_alloc]; omega)); have b1 := b0.alloc b0.size (zoneRow st du sa sl sc)))
    | (((with_reducible refine Plan.store_lit 48 (.tmp 4) _ (w.heap.size + 1) ?_ hr1 ?_ ?_ ?_ ?_ ?_ ?_); rotate_left; (· rfl); (· rfl); (· exact zone_info); (· rfl); (· simp [Value.oneCell']); simp only [Act.put])))
  refine bodyPost_ret (Plan.results_cell_tmp (p := 4) (q := 5) rfl _ _ _ _ _ _ _ rfl (setRow_heap _ _ _ _ _ _ hr1) Try.underlying48 rfl zone_info) rfl ⟨rfl, below_setRow b1 (by omega) _⟩
theorem begin_cases {D : Dev} {k : Int} (h : beginE D k ≠ 0) : zoneE D k ≠ 0 ∧ beginE D k = zoneE D k ∨ beginE D k = 6 ∧ ∃ i : Nat, k = (i : Int) ∧ i < D.zones.length ∧ checkE D = 0 ∧ stateAt D k = 5 := by
  unfold beginE at h ⊢
  by_cases h1 : zoneE D k ≠ 0
  · exact .inl ⟨h1, by rw [if_pos h1]⟩
  · rw [if_neg h1] at h ⊢
    have h3 := zoneE_of (show zoneE D k = 0 by omega)
    by_cases h4 : stateAt D k = 5
    · exact .inr ⟨by rw [if_pos h4], k.toNat, by omega, by omega, h3.1, h4⟩
    · rw [if_neg h4] at h; exact absurd rfl h
set_option maxHeartbeats 2000000 in
set_option maxRecDepth 20000 in
theorem online_no (D : Dev) (a : Option Addr) (len cap : Nat) (k : Int) (w : World) (hz : IsZones w a len cap D.zones) (hE : beginE D k ≠ 0) :
    Calls Try.prog 45 #[devV D a len cap, .int .i64 k] w fun e w' => e = .returned (.tuple #[.agg #[.int .i64 0, .int .i64 0, .slice none 0 0], .int .i64 (beginE D k)]) ∧ Below w.heap.size w w' := by
  have hA : Below w.heap.size w ((w.alloc (devRow D.size D.maxOpen D.maxActive a len cap)).alloc (zoneRow 0 0 none 0 0)) := ((Below.refl _ _).alloc (Nat.le_refl _) _).alloc (by simp) _
  rcases begin_cases hE with ⟨hE', hq⟩ | ⟨hq, i, rfl, hi, hc, hs⟩
  · have hfd := fun W (h : Below w.heap.size w W) => find_no D a len cap k W (hz.on h (Nat.le_refl _)) hE'
    rw [hq]
    generalize zoneE D k = E at *
    have HK := Lib.hid hfd
    have HA := Lib.hid hA
    have e0 : (E == 0) = false := by simp [hE']
    clear hfd hA hE hz hq hE'
    obtain ⟨size, op, act, Z⟩ := D
    change Calls Try.prog 45 #[.agg #[.int .i64 size, .int .i64 op, .int .i64 act, .slice a len cap], .int .i64 k] w fun e w' => e = .returned (.tuple #[.agg #[.int .i64 0, .int .i64 0, .slice none 0 0], .int .i64 E]) ∧ Below w.heap.size w w'
    go_enter Try.func45, Try.ntmps45
    go_wp2_with (first
      | (go_at_call 46; ((with_reducible refine (HK.out _ HA.out).mono ?_); rintro e w1 ⟨rfl, hb1⟩; have hx1 := row_al (row_on hb1 (heap_first2 w _ _) (by simp only [World.size_alloc]; omega)) (zoneRow 0 0 none 0 0); have hr1 := row_al (row_on hb1 (heap_second w _ _) (by simp only [World.size_alloc]; omega)) (zoneRow 0 0 none 0 0); obtain ⟨y0, d0, d1, d2, d3⟩ := row4 (row_on hb1 (heap_first2 w _ _) (by simp only [World.size_alloc]; omega)); obtain ⟨y1, f0, f1, f2, f3⟩ := row4 hx1; have hq1 := heap_alloc_new w1 (zoneRow 0 0 none 0 0); obtain ⟨yq, g0, g1, g2⟩ := row3 hq1; have b0 := HA.out.trans (hb1.mono (by simp only [World.size_alloc]; omega)); have b1 := b0.alloc b0.size (zoneRow 0 0 none 0 0)))
      | (((with_reducible refine Plan.store_lit 48 (.tmp 4) _ (w.heap.size + 1) ?_ hr1 ?_ ?_ ?_ ?_ ?_ ?_); rotate_left; (· rfl); (· rfl); (· exact zone_info); (· rfl); (· simp [Value.oneCell']); simp only [Act.put])))
    refine bodyPost_ret (Plan.results_cell_tmp (p := 4) (q := 5) rfl _ _ _ _ _ _ _ rfl (setRow_heap _ _ _ _ _ _ hr1) Try.underlying48 rfl zone_info) rfl ⟨rfl, below_setRow b1 (by omega) _⟩
  · rw [hz.length] at hi
    obtain ⟨x, z, sa, sl, sc, rfl, hzk, hza, -⟩ := hz.zone i hi
    have hxb := zone_block hza
    have hfd := fun W (h : Below w.heap.size w W) => find_ok D x len cap i z sa sl sc W (hz.on h (Nat.le_refl _)) hi hc (hza.on h hxb)
    rw [stateAt_of hzk] at hs
    rw [hq]
    have HK := Lib.hid hfd
    have HA := Lib.hid hA
    have e5 : (z.state == 5) = true := by simp [hs]
    clear hfd hA hE hz hq hza hs hzk hc
    obtain ⟨size, op, act, Z⟩ := D
    obtain ⟨st, du, L⟩ := z
    try simp only at e5
    change Calls Try.prog 45 #[.agg #[.int .i64 size, .int .i64 op, .int .i64 act, .slice (some x) len cap], .int .i64 (i : Int)] w fun e w' => e = .returned (.tuple #[.agg #[.int .i64 0, .int .i64 0, .slice none 0 0], .int .i64 6]) ∧ Below w.heap.size w w'
    go_enter Try.func45, Try.ntmps45
    go_wp2_with (first
      | (go_at_call 46; ((with_reducible refine (HK.out _ HA.out).mono ?_); rintro e w1 ⟨rfl, hb1⟩; have hx1 := row_al (row_on hb1 (heap_first2 w _ _) (by simp only [World.size_alloc]; omega)) (zoneRow st du sa sl sc); have hr1 := row_al (row_on hb1 (heap_second w _ _) (by simp only [World.size_alloc]; omega)) (zoneRow st du sa sl sc); obtain ⟨y0, d0, d1, d2, d3⟩ := row4 (row_on hb1 (heap_first2 w _ _) (by simp only [World.size_alloc]; omega)); obtain ⟨y1, f0, f1, f2, f3⟩ := row4 hx1; have hq1 := heap_alloc_new w1 (zoneRow st du sa sl sc); obtain ⟨yq, g0, g1, g2⟩ := row3 hq1; have b0 := HA.out.trans (hb1.mono (by simp only [World.size_alloc]; omega)); have b1 := b0.alloc b0.size (zoneRow st du sa sl sc)))
      | (((with_reducible refine Plan.store_lit 48 (.tmp 4) _ (w.heap.size + 1) ?_ hr1 ?_ ?_ ?_ ?_ ?_ ?_); rotate_left; (· rfl); (· rfl); (· exact zone_info); (· rfl); (· simp [Value.oneCell']); simp only [Act.put])))
    refine bodyPost_ret (Plan.results_cell_tmp (p := 4) (q := 5) rfl _ _ _ _ _ _ _ rfl (setRow_heap _ _ _ _ _ _ hr1) Try.underlying48 rfl zone_info) rfl ⟨rfl, below_setRow b1 (by omega) _⟩
theorem pwith_from (F : Nat → Prop) (D : Dev) (a : Option Addr) (len cap k : Nat) (st du : Int) (L : List ByteArray) (sa : Option Addr) (sl sc : Nat) (w : World) (hz : ZonesIn w F a len cap D.zones) (hk : k < len) (hm : len ≤ 1000000) (hs : StrsIn w F sa sl sc L) :
    Calls Try.prog 48 #[devV D a len cap, .int .i64 k, .agg #[.int .i64 st, .int .i64 du, .slice sa sl sc]] w fun e w' => ∃ a' cap', e = .returned (devV (withZ D k ⟨st, du, L⟩) a' len cap') ∧ ZonesIn w' (Plus F w.heap.size) a' len cap' (D.zones.set k ⟨st, du, L⟩) ∧ Below w.heap.size w w' :=
  with_any F D a len cap k ⟨st, du, L⟩ sa sl sc w hz hk hm hs
set_option maxHeartbeats 2000000 in
set_option maxRecDepth 20000 in
theorem reset_err (F : Nat → Prop) (D : Dev) (a : Option Addr) (len cap : Nat) (k : Int) (w : World) (hz : ZonesIn w F a len cap D.zones) (hE : beginE D k ≠ 0) :
    Calls Try.prog 27 #[devV D a len cap, .int .i64 k] w (DevPost w F len D (beginE D k)) := by
  have hfd := fun W (h : Below w.heap.size w W) => online_no D a len cap k W (hz.on (Agree.below h)).is hE
  have hA : Below w.heap.size w ((w.alloc (devRow D.size D.maxOpen D.maxActive a len cap)).alloc (devRow 0 0 0 none 0 0)) := ((Below.refl _ _).alloc (Nat.le_refl _) _).alloc (by simp) _
  unfold DevPost
  generalize beginE D k = E at *
  have hE1 : (E != 0) = true := by simp [hE]
  have HK := Lib.hid hfd
  have HA := Lib.hid hA
  clear hfd hA hE
  obtain ⟨size, op, act, Z⟩ := D
  go_enter Try.func27, Try.ntmps27
  go_wp2_with (first
    | (go_at_call 45; ((with_reducible refine (HK.out _ HA.out).mono ?_); rintro e w1 ⟨rfl, hb1⟩; have hx1 := row_al (row_on hb1 (heap_first2 w _ _) (by simp only [World.size_alloc]; omega)) (zoneRow 0 0 none 0 0); have hr1 := row_al (row_on hb1 (heap_second w _ _) (by simp only [World.size_alloc]; omega)) (zoneRow 0 0 none 0 0); obtain ⟨y0, d0, d1, d2, d3⟩ := row4 (row_on hb1 (heap_first2 w _ _) (by simp only [World.size_alloc]; omega)); obtain ⟨y1, f0, f1, f2, f3⟩ := row4 hx1; have hq1 := heap_alloc_new w1 (zoneRow 0 0 none 0 0); obtain ⟨yq, g0, g1, g2⟩ := row3 hq1; have b0 := HA.out.trans (hb1.mono (by simp only [World.size_alloc]; omega)); have b1 := b0.alloc b0.size (zoneRow 0 0 none 0 0)))
    | (((with_reducible refine Plan.store_lit 24 (.tmp 4) _ (w.heap.size + 1) ?_ hr1 ?_ ?_ ?_ ?_ ?_ ?_); rotate_left; (· rfl); (· rfl); (· exact dev_info); (· rfl); (· simp [Value.oneCell']); simp only [Act.put])))
  have b2 := below_setRow b1 (show w.heap.size ≤ w.heap.size + 1 by omega) #[.int .i64 size, .int .i64 op, .int .i64 act, .slice a len cap]
  refine bodyPost_ret (Plan.results_cell_tmp (p := 4) (q := 5) rfl _ _ _ _ _ _ _ rfl (setRow_heap _ _ _ _ _ _ hr1) Try.underlying24 rfl dev_info) rfl ⟨a, cap, rfl, (hz.on (Agree.below b2)).mono (fun b _ hb => .inl hb), b2⟩
set_option maxHeartbeats 2000000 in
set_option maxRecDepth 20000 in
theorem finish_err (F : Nat → Prop) (D : Dev) (a : Option Addr) (len cap : Nat) (k : Int) (w : World) (hz : ZonesIn w F a len cap D.zones) (hE : beginE D k ≠ 0) :
    Calls Try.prog 29 #[devV D a len cap, .int .i64 k] w (DevPost w F len D (beginE D k)) := by
  have hfd := fun W (h : Below w.heap.size w W) => online_no D a len cap k W (hz.on (Agree.below h)).is hE
  have hA : Below w.heap.size w ((w.alloc (devRow D.size D.maxOpen D.maxActive a len cap)).alloc (devRow 0 0 0 none 0 0)) := ((Below.refl _ _).alloc (Nat.le_refl _) _).alloc (by simp) _
  unfold DevPost
  generalize beginE D k = E at *
  have hE1 : (E != 0) = true := by simp [hE]
  have HK := Lib.hid hfd
  have HA := Lib.hid hA
  clear hfd hA hE
  obtain ⟨size, op, act, Z⟩ := D
  go_enter Try.func29, Try.ntmps29
  go_wp2_with (first
    | (go_at_call 45; ((with_reducible refine (HK.out _ HA.out).mono ?_); rintro e w1 ⟨rfl, hb1⟩; have hx1 := row_al (row_on hb1 (heap_first2 w _ _) (by simp only [World.size_alloc]; omega)) (zoneRow 0 0 none 0 0); have hr1 := row_al (row_on hb1 (heap_second w _ _) (by simp only [World.size_alloc]; omega)) (zoneRow 0 0 none 0 0); obtain ⟨y0, d0, d1, d2, d3⟩ := row4 (row_on hb1 (heap_first2 w _ _) (by simp only [World.size_alloc]; omega)); obtain ⟨y1, f0, f1, f2, f3⟩ := row4 hx1; have hq1 := heap_alloc_new w1 (zoneRow 0 0 none 0 0); obtain ⟨yq, g0, g1, g2⟩ := row3 hq1; have b0 := HA.out.trans (hb1.mono (by simp only [World.size_alloc]; omega)); have b1 := b0.alloc b0.size (zoneRow 0 0 none 0 0)))
    | (((with_reducible refine Plan.store_lit 24 (.tmp 4) _ (w.heap.size + 1) ?_ hr1 ?_ ?_ ?_ ?_ ?_ ?_); rotate_left; (· rfl); (· rfl); (· exact dev_info); (· rfl); (· simp [Value.oneCell']); simp only [Act.put])))
  have b2 := below_setRow b1 (show w.heap.size ≤ w.heap.size + 1 by omega) #[.int .i64 size, .int .i64 op, .int .i64 act, .slice a len cap]
  refine bodyPost_ret (Plan.results_cell_tmp (p := 4) (q := 5) rfl _ _ _ _ _ _ _ rfl (setRow_heap _ _ _ _ _ _ hr1) Try.underlying24 rfl dev_info) rfl ⟨a, cap, rfl, (hz.on (Agree.below b2)).mono (fun b _ hb => .inl hb), b2⟩
set_option maxHeartbeats 2000000 in
set_option maxRecDepth 20000 in
theorem open_err (F : Nat → Prop) (D : Dev) (a : Option Addr) (len cap : Nat) (k : Int) (w : World) (hz : ZonesIn w F a len cap D.zones) (hE : zoneE D k ≠ 0) :
    Calls Try.prog 31 #[devV D a len cap, .int .i64 k] w (DevPost w F len D (zoneE D k)) := by
  have hfd := fun W (h : Below w.heap.size w W) => find_no D a len cap k W (hz.on (Agree.below h)).is hE
  have hA : Below w.heap.size w ((w.alloc (devRow D.size D.maxOpen D.maxActive a len cap)).alloc (devRow 0 0 0 none 0 0)) := ((Below.refl _ _).alloc (Nat.le_refl _) _).alloc (by simp) _
  unfold DevPost
  generalize zoneE D k = E at *
  have hE1 : (E != 0) = true := by simp [hE]
  have HK := Lib.hid hfd
  have HA := Lib.hid hA
  clear hfd hA hE
  obtain ⟨size, op, act, Z⟩ := D
  go_enter Try.func31, Try.ntmps31
  go_wp2_with (first
    | (go_at_call 46; ((with_reducible refine (HK.out _ HA.out).mono ?_); rintro e w1 ⟨rfl, hb1⟩; have hx1 := row_al (row_on hb1 (heap_first2 w _ _) (by simp only [World.size_alloc]; omega)) (zoneRow 0 0 none 0 0); have hr1 := row_al (row_on hb1 (heap_second w _ _) (by simp only [World.size_alloc]; omega)) (zoneRow 0 0 none 0 0); obtain ⟨y0, d0, d1, d2, d3⟩ := row4 (row_on hb1 (heap_first2 w _ _) (by simp only [World.size_alloc]; omega)); obtain ⟨y1, f0, f1, f2, f3⟩ := row4 hx1; have hq1 := heap_alloc_new w1 (zoneRow 0 0 none 0 0); obtain ⟨yq, g0, g1, g2⟩ := row3 hq1; have b0 := HA.out.trans (hb1.mono (by simp only [World.size_alloc]; omega)); have b1 := b0.alloc b0.size (zoneRow 0 0 none 0 0)))
    | (((with_reducible refine Plan.store_lit 24 (.tmp 4) _ (w.heap.size + 1) ?_ hr1 ?_ ?_ ?_ ?_ ?_ ?_); rotate_left; (· rfl); (· rfl); (· exact dev_info); (· rfl); (· simp [Value.oneCell']); simp only [Act.put])))
  have b2 := below_setRow b1 (show w.heap.size ≤ w.heap.size + 1 by omega) #[.int .i64 size, .int .i64 op, .int .i64 act, .slice a len cap]
  refine bodyPost_ret (Plan.results_cell_tmp (p := 4) (q := 5) rfl _ _ _ _ _ _ _ rfl (setRow_heap _ _ _ _ _ _ hr1) Try.underlying24 rfl dev_info) rfl ⟨a, cap, rfl, (hz.on (Agree.below b2)).mono (fun b _ hb => .inl hb), b2⟩
set_option maxHeartbeats 2000000 in
set_option maxRecDepth 20000 in
theorem close_err (F : Nat → Prop) (D : Dev) (a : Option Addr) (len cap : Nat) (k : Int) (w : World) (hz : ZonesIn w F a len cap D.zones) (hE : zoneE D k ≠ 0) :
    Calls Try.prog 33 #[devV D a len cap, .int .i64 k] w (DevPost w F len D (zoneE D k)) := by
  have hfd := fun W (h : Below w.heap.size w W) => find_no D a len cap k W (hz.on (Agree.below h)).is hE
  have hA : Below w.heap.size w ((w.alloc (devRow D.size D.maxOpen D.maxActive a len cap)).alloc (devRow 0 0 0 none 0 0)) := ((Below.refl _ _).alloc (Nat.le_refl _) _).alloc (by simp) _
  unfold DevPost
  generalize zoneE D k = E at *
  have hE1 : (E != 0) = true := by simp [hE]
  have HK := Lib.hid hfd
  have HA := Lib.hid hA
  clear hfd hA hE
  obtain ⟨size, op, act, Z⟩ := D
  go_enter Try.func33, Try.ntmps33
  go_wp2_with (first
    | (go_at_call 46; ((with_reducible refine (HK.out _ HA.out).mono ?_); rintro e w1 ⟨rfl, hb1⟩; have hx1 := row_al (row_on hb1 (heap_first2 w _ _) (by simp only [World.size_alloc]; omega)) (zoneRow 0 0 none 0 0); have hr1 := row_al (row_on hb1 (heap_second w _ _) (by simp only [World.size_alloc]; omega)) (zoneRow 0 0 none 0 0); obtain ⟨y0, d0, d1, d2, d3⟩ := row4 (row_on hb1 (heap_first2 w _ _) (by simp only [World.size_alloc]; omega)); obtain ⟨y1, f0, f1, f2, f3⟩ := row4 hx1; have hq1 := heap_alloc_new w1 (zoneRow 0 0 none 0 0); obtain ⟨yq, g0, g1, g2⟩ := row3 hq1; have b0 := HA.out.trans (hb1.mono (by simp only [World.size_alloc]; omega)); have b1 := b0.alloc b0.size (zoneRow 0 0 none 0 0)))
    | (((with_reducible refine Plan.store_lit 24 (.tmp 4) _ (w.heap.size + 1) ?_ hr1 ?_ ?_ ?_ ?_ ?_ ?_); rotate_left; (· rfl); (· rfl); (· exact dev_info); (· rfl); (· simp [Value.oneCell']); simp only [Act.put])))
  have b2 := below_setRow b1 (show w.heap.size ≤ w.heap.size + 1 by omega) #[.int .i64 size, .int .i64 op, .int .i64 act, .slice a len cap]
  refine bodyPost_ret (Plan.results_cell_tmp (p := 4) (q := 5) rfl _ _ _ _ _ _ _ rfl (setRow_heap _ _ _ _ _ _ hr1) Try.underlying24 rfl dev_info) rfl ⟨a, cap, rfl, (hz.on (Agree.below b2)).mono (fun b _ hb => .inl hb), b2⟩
set_option maxHeartbeats 2000000 in
set_option maxRecDepth 20000 in
theorem reset_any (F : Nat → Prop) (D : Dev) (a : Option Addr) (len cap : Nat) (k : Int) (w : World) (hF : ∀ b, F b → b < w.heap.size) (hz : ZonesIn w F a len cap D.zones) (hm : len ≤ 1000000) :
    Calls Try.prog 27 #[devV D a len cap, .int .i64 k] w (DevPost w F len (resetR D k) (beginE D k)) := by
  by_cases hE : beginE D k = 0
  case neg =>
    rw [resetR_no hE]
    exact reset_err F D a len cap k w hz hE
  have hl := hz.is.length
  obtain ⟨i, rfl, hi, hc, hs⟩ := begin_range hE
  rw [hl] at hi
  obtain ⟨x, z, sa, sl, sc, rfl, hzk, hza, hzs⟩ := hz.zone i hi
  rw [stateAt_of hzk] at hs
  have hxb := zone_block hza
  have hfd := fun W (h : Below w.heap.size w W) => online_ok D x len cap i z sa sl sc W (hz.on (Agree.below h)).is hi hc (hza.on h hxb) hs
  have hwt := fun W (h : Below w.heap.size w W) => pwith_from F D (some x) len cap i 0 0 [] none 0 0 W (hz.on (Agree.below h)) hi hm (empty_in W F)
  have hA : Below w.heap.size w ((w.alloc (devRow D.size D.maxOpen D.maxActive (some x) len cap)).alloc (devRow 0 0 0 none 0 0)) := ((Below.refl _ _).alloc (Nat.le_refl _) _).alloc (by simp) _
  rw [resetR_yes hE, hE]
  unfold DevPost
  have HK := Lib.hid hfd
  have HW := Lib.hid hwt
  have HA := Lib.hid hA
  clear hfd hwt hA hE hza hzs hs
  obtain ⟨size, op, act, Z⟩ := D
  obtain ⟨st, du, L⟩ := z
  go_enter Try.func27, Try.ntmps27
  go_wp2_with (first
    | (go_at_call 45; ((with_reducible refine (HK.out _ HA.out).mono ?_); rintro e w1 ⟨rfl, hb1⟩; have hx1 := row_al (row_on hb1 (heap_first2 w _ _) (by simp only [World.size_alloc]; omega)) (zoneRow st du sa sl sc); have hr1 := row_al (row_on hb1 (heap_second w _ _) (by simp only [World.size_alloc]; omega)) (zoneRow st du sa sl sc); obtain ⟨y0, d0, d1, d2, d3⟩ := row4 (row_on hb1 (heap_first2 w _ _) (by simp only [World.size_alloc]; omega)); obtain ⟨y1, f0, f1, f2, f3⟩ := row4 hx1; have hq1 := heap_alloc_new w1 (zoneRow st du sa sl sc); obtain ⟨yq, g0, g1, g2⟩ := row3 hq1; have b0 := HA.out.trans (hb1.mono (by simp only [World.size_alloc]; omega)); have b1 := b0.alloc b0.size (zoneRow st du sa sl sc)))
    | (go_at_call 48; ((with_reducible refine (HW.out _ b1).mono ?_); rintro e w2 ⟨a2, c2, rfl, hz2, hb2⟩; have hr2 := row_on hb2 hr1 (lt_of_block hr1)))
    | (((with_reducible refine Plan.store_lit 24 (.tmp 4) _ (w.heap.size + 1) ?_ hr2 ?_ ?_ ?_ ?_ ?_ ?_); rotate_left; (· rfl); (· rfl); (· exact dev_info); (· rfl); (· simp [Value.oneCell']); simp only [Act.put])))
  have hz3 := hz2.on (Agree.row (plus_not hF (by omega) (by have := lt_of_block hr1; omega) : ¬ Plus F (w1.alloc (zoneRow st du sa sl sc)).heap.size (w.heap.size + 1)) #[.int .i64 size, .int .i64 op, .int .i64 act, .slice a2 len c2])
  refine bodyPost_ret (Plan.results_cell_tmp (p := 4) (q := 5) rfl _ _ _ _ _ _ _ rfl (setRow_heap _ _ _ _ _ _ hr2) Try.underlying24 rfl dev_info) rfl ⟨a2, c2, rfl, hz3.mono (fun b _ hb => hb.imp id (fun h => Nat.le_trans b1.size h)), below_setRow (b1.trans (hb2.mono b1.size)) (by omega) _⟩
end Go.Proofs.Ytlmlmgegnnikeaa

/- The walks of the program's Finish, Close, Read, New. -/
namespace Go.Proofs.Ytlmlmgegnnikeaa
open Go.RowKit Plan ZnsMath

set_option maxHeartbeats 2000000 in
set_option maxRecDepth 20000 in
theorem finish_any (F : Nat → Prop) (D : Dev) (a : Option Addr) (len cap : Nat) (k : Int) (w : World) (hF : ∀ b, F b → b < w.heap.size) (hz : ZonesIn w F a len cap D.zones) (hm : len ≤ 1000000) :
    Calls Try.prog 29 #[devV D a len cap, .int .i64 k] w (DevPost w F len (finishR D k) (beginE D k)) := by
  by_cases hE : beginE D k = 0
  case neg =>
    rw [finishR_no hE]
    exact finish_err F D a len cap k w hz hE
  have hl := hz.is.length
  obtain ⟨i, rfl, hi, hc, hs⟩ := begin_range hE
  rw [hl] at hi
  obtain ⟨x, z, sa, sl, sc, rfl, hzk, hza, hzs⟩ := hz.zone i hi
  rw [stateAt_of hzk] at hs
  have hxb := zone_block hza
  have hsl := hzs.1.length
  have hfd := fun W (h : Below w.heap.size w W) => online_ok D x len cap i z sa sl sc W (hz.on (Agree.below h)).is hi hc (hza.on h hxb) hs
  have hwt := fun W (h : Below w.heap.size w W) => pwith_from F D (some x) len cap i 4 (sl : Int) z.sectors sa sl sc W (hz.on (Agree.below h)) hi hm (hzs.on (Agree.below h))
  have hfl : ∀ W, Calls Try.prog 56 #[zoneV z sa sl sc] W fun e w' => e = .returned (.agg #[.int .i64 4, .int .i64 (sl : Int), .slice sa sl sc]) ∧ Below W.heap.size W w' := fun W => full_any z sa sl sc W
  have hA : Below w.heap.size w ((w.alloc (devRow D.size D.maxOpen D.maxActive (some x) len cap)).alloc (devRow 0 0 0 none 0 0)) := ((Below.refl _ _).alloc (Nat.le_refl _) _).alloc (by simp) _
  rw [finishR_yes hE hzk, hE, hsl]
  unfold DevPost
  have HK := Lib.hid hfd
  have HW := Lib.hid hwt
  have HL := Lib.hid hfl
  have HA := Lib.hid hA
  clear hfd hwt hfl hA hE hza hs
  obtain ⟨size, op, act, Z⟩ := D
  obtain ⟨st, du, L⟩ := z
  go_enter Try.func29, Try.ntmps29
  go_wp2_with (first
    | (go_at_call 45; ((with_reducible refine (HK.out _ HA.out).mono ?_); rintro e w1 ⟨rfl, hb1⟩; have hx1 := row_al (row_on hb1 (heap_first2 w _ _) (by simp only [World.size_alloc]; omega)) (zoneRow st du sa sl sc); have hr1 := row_al (row_on hb1 (heap_second w _ _) (by simp only [World.size_alloc]; omega)) (zoneRow st du sa sl sc); obtain ⟨y0, d0, d1, d2, d3⟩ := row4 (row_on hb1 (heap_first2 w _ _) (by simp only [World.size_alloc]; omega)); obtain ⟨y1, f0, f1, f2, f3⟩ := row4 hx1; have hq1 := heap_alloc_new w1 (zoneRow st du sa sl sc); obtain ⟨yq, g0, g1, g2⟩ := row3 hq1; have b0 := HA.out.trans (hb1.mono (by simp only [World.size_alloc]; omega)); have b1 := b0.alloc b0.size (zoneRow st du sa sl sc))))
  refine Plan.start (fun W => DevAt W w.heap.size size op act (some x) len cap ∧ W.cell? ⟨w1.heap.size, 0, none⟩ = some (.int .i64 st) ∧ W.cell? ⟨w1.heap.size, 1, none⟩ = some (.int .i64 du) ∧ W.cell? ⟨w1.heap.size, 2, none⟩ = some (.slice sa sl sc)) [(0, true), (1, true), (2, true), (3, false), (4, false), (5, false), (6, true)] (by kernel_rfl) (by kernel_rfl) (by kernel_rfl) (by kernel_rfl) ⟨⟨f0, f1, f2, f3⟩, g0, g1, g2⟩ ?_
  simp only [List.map_cons, List.map_nil, List.getElem?_toArray, List.getElem?_cons_zero, List.getElem?_cons_succ]
  repeat (first | (refine Plan.take ?_ (by rfl) ?_ ?_; rotate_left; (· rintro w9 ⟨⟨e0, e1, e2, e3⟩, z0, z1, z2⟩; go_simp; (try rw [if_neg (by omega)]); all_goals (with_reducible rfl)); simp only [Act.put, List.setIfInBounds_toArray, List.set_cons_zero, List.set_cons_succ]) | (refine Plan.pass (by rfl) ?_; simp only [Act.put, List.setIfInBounds_toArray, List.set_cons_zero, List.set_cons_succ]))
  refine Plan.call (by rfl) 56 _ ?_ (HL.out _) ?_
  · go_simp
  rintro e w2 ⟨rfl, hb2⟩
  have hb2 := (Below.refl (w1.alloc (zoneRow st du sa sl sc)).heap.size (w1.alloc (zoneRow st du sa sl sc))).drew.trans hb2
  have hx2 := row_on hb2 hx1 (lt_of_block hx1)
  have hr2 := row_on hb2 hr1 (lt_of_block hr1)
  have hq2 := row_on hb2 hq1 (lt_of_block hq1)
  obtain ⟨y2, f0, f1, f2, f3⟩ := row4 hx2
  obtain ⟨yq2, g0, g1, g2⟩ := row3 hq2
  have b2 := b1.trans (hb2.mono b1.size)
  refine ⟨_, rfl, ⟨⟨f0, f1, f2, f3⟩, g0, g1, g2⟩, ?_⟩
  simp only [Act.put, List.setIfInBounds_toArray, List.set_cons_zero, List.set_cons_succ]
  refine Plan.call (by rfl) 48 _ ?_ (HW.out _ b2) ?_
  · go_simp
  rintro e w3 ⟨a2, c2, rfl, hz2, hb3⟩
  have hx3 := row_on hb3 hx2 (lt_of_block hx2)
  have hr3 := row_on hb3 hr2 (lt_of_block hr2)
  have hq3 := row_on hb3 hq2 (lt_of_block hq2)
  obtain ⟨y3, f0, f1, f2, f3⟩ := row4 hx3
  obtain ⟨yq3, g0, g1, g2⟩ := row3 hq3
  have b3 := b2.trans (hb3.mono b2.size)
  refine ⟨_, rfl, ⟨⟨f0, f1, f2, f3⟩, g0, g1, g2⟩, ?_⟩
  simp only [Act.put, List.setIfInBounds_toArray, List.set_cons_zero, List.set_cons_succ]
  have b4 := below_setRow b3 (show w.heap.size ≤ w.heap.size + 1 by omega) #[.int .i64 size, .int .i64 op, .int .i64 act, .slice a2 len c2]
  have hx4 := (setRow_other w3 (w.heap.size + 1) w.heap.size #[.int .i64 size, .int .i64 op, .int .i64 act, .slice a2 len c2] (by omega)).trans hx3
  have hq4 := (setRow_other w3 (w.heap.size + 1) w1.heap.size #[.int .i64 size, .int .i64 op, .int .i64 act, .slice a2 len c2] (by have := lt_of_block (row_on hb1 (heap_second w _ _) (by simp only [World.size_alloc]; omega)); omega)).trans hq3
  refine Plan.store (by rfl) 24 _ _ rfl (w.heap.size + 1) #[.int .i64 size, .int .i64 op, .int .i64 act, .slice a2 len c2] (by rfl) (by rfl) 24 _ hr3 dev_info rfl (by simp [Value.oneCell']) ⟨(row4 hx4).2, (row3 hq4).2⟩ ?_
  simp only [Act.put]
  repeat (first | (refine Plan.take ?_ (by rfl) ?_ ?_; rotate_left; (· rintro w9 ⟨⟨e0, e1, e2, e3⟩, z0, z1, z2⟩; go_simp; (try rw [if_neg (by omega)]); all_goals (with_reducible rfl)); simp only [Act.put, List.setIfInBounds_toArray, List.set_cons_zero, List.set_cons_succ]) | (refine Plan.pass (by rfl) ?_; simp only [Act.put, List.setIfInBounds_toArray, List.set_cons_zero, List.set_cons_succ]))
  refine Plan.ends ?_
  go_wp2_with fail
  have hz3 := hz2.on (Agree.row (plus_not hF (by omega) (by have := lt_of_block hr2; omega) : ¬ Plus F w2.heap.size (w.heap.size + 1)) #[.int .i64 size, .int .i64 op, .int .i64 act, .slice a2 len c2])
  refine bodyPost_ret (Plan.results_cell_tmp (p := 4) (q := 5) rfl _ _ _ _ _ _ _ rfl (setRow_heap _ _ _ _ _ _ hr3) Try.underlying24 rfl dev_info) rfl ⟨a2, c2, rfl, hz3.mono (fun b _ hb => hb.imp id (fun h => Nat.le_trans b2.size h)), b4⟩
set_option maxHeartbeats 2000000 in
set_option maxRecDepth 20000 in
theorem close_none (F : Nat → Prop) (D : Dev) (a : Option Addr) (len cap i : Nat) (w : World) (hz : ZonesIn w F a len cap D.zones) (hi : i < len) (hc : checkE D = 0) (hs : activeB (stateAt D (i : Int)) = false) :
    Calls Try.prog 33 #[devV D a len cap, .int .i64 (i : Int)] w (DevPost w F len D 6) := by
  have hl := hz.is.length
  obtain ⟨x, z, sa, sl, sc, rfl, hzk, hza, hzs⟩ := hz.zone i hi
  rw [stateAt_of hzk] at hs
  have hxb := zone_block hza
  have hfd := fun W (h : Below w.heap.size w W) => find_ok D x len cap i z sa sl sc W (hz.on (Agree.below h)).is hi hc (hza.on h hxb)
  have hA : Below w.heap.size w ((w.alloc (devRow D.size D.maxOpen D.maxActive (some x) len cap)).alloc (devRow 0 0 0 none 0 0)) := ((Below.refl _ _).alloc (Nat.le_refl _) _).alloc (by simp) _
  have hac := fun W => isActive_any z sa sl sc W
  rw [hs] at hac
  unfold DevPost
  have HK := Lib.hid hfd
  have HC := Lib.hid hac
  have HA := Lib.hid hA
  clear hfd hac hA hza hs hzs
  obtain ⟨size, op, act, Z⟩ := D
  obtain ⟨st, du, L⟩ := z
  go_enter Try.func33, Try.ntmps33
  go_wp2_with (first
    | (go_at_call 46; ((with_reducible refine (HK.out _ HA.out).mono ?_); rintro e w1 ⟨rfl, hb1⟩; have hx1 := row_al (row_on hb1 (heap_first2 w _ _) (by simp only [World.size_alloc]; omega)) (zoneRow st du sa sl sc); have hr1 := row_al (row_on hb1 (heap_second w _ _) (by simp only [World.size_alloc]; omega)) (zoneRow st du sa sl sc); obtain ⟨y0, d0, d1, d2, d3⟩ := row4 (row_on hb1 (heap_first2 w _ _) (by simp only [World.size_alloc]; omega)); obtain ⟨y1, f0, f1, f2, f3⟩ := row4 hx1; have hq1 := heap_alloc_new w1 (zoneRow st du sa sl sc); obtain ⟨yq, g0, g1, g2⟩ := row3 hq1; have b0 := HA.out.trans (hb1.mono (by simp only [World.size_alloc]; omega)); have b1 := b0.alloc b0.size (zoneRow st du sa sl sc)))
    | (go_at_call 51; ((with_reducible refine (HC.out _).mono ?_); rintro e w2 ⟨rfl, hb2⟩; have hx2 := row_on hb2 hx1 (lt_of_block hx1); have hr2 := row_on hb2 hr1 (lt_of_block hr1); have hq2 := row_on hb2 hq1 (lt_of_block hq1); obtain ⟨y2, f0, f1, f2, f3⟩ := row4 hx2; obtain ⟨yq2, g0, g1, g2⟩ := row3 hq2; have b2 := b1.trans (hb2.mono b1.size)))
    | (((with_reducible refine Plan.store_lit 24 (.tmp 4) _ (w.heap.size + 1) ?_ hr2 ?_ ?_ ?_ ?_ ?_ ?_); rotate_left; (· rfl); (· rfl); (· exact dev_info); (· rfl); (· simp [Value.oneCell']); simp only [Act.put])))
  have b3 := below_setRow b2 (show w.heap.size ≤ w.heap.size + 1 by omega) #[.int .i64 size, .int .i64 op, .int .i64 act, .slice (some x) len cap]
  refine bodyPost_ret (Plan.results_cell_tmp (p := 4) (q := 5) rfl _ _ _ _ _ _ _ rfl (setRow_heap _ _ _ _ _ _ hr2) Try.underlying24 rfl dev_info) rfl ⟨some x, cap, rfl, (hz.on (Agree.below b3)).mono (fun b _ hb => .inl hb), b3⟩
set_option maxHeartbeats 2000000 in
set_option maxRecDepth 20000 in
theorem close_open (F : Nat → Prop) (D : Dev) (a : Option Addr) (len cap i : Nat) (w : World) (hF : ∀ b, F b → b < w.heap.size) (hz : ZonesIn w F a len cap D.zones) (hm : len ≤ 1000000) (hi : i < len) (hc : checkE D = 0) (hs : openB (stateAt D (i : Int)) = true) :
    Calls Try.prog 33 #[devV D a len cap, .int .i64 (i : Int)] w (DevPost w F len (withZ D i (shut (D.zones.getD i empty))) 0) := by
  have hl := hz.is.length
  obtain ⟨x, z, sa, sl, sc, rfl, hzk, hza, hzs⟩ := hz.zone i hi
  rw [stateAt_of hzk] at hs
  have hxb := zone_block hza
  have hfd := fun W (h : Below w.heap.size w W) => find_ok D x len cap i z sa sl sc W (hz.on (Agree.below h)).is hi hc (hza.on h hxb)
  have hA : Below w.heap.size w ((w.alloc (devRow D.size D.maxOpen D.maxActive (some x) len cap)).alloc (devRow 0 0 0 none 0 0)) := ((Below.refl _ _).alloc (Nat.le_refl _) _).alloc (by simp) _
  have hsl := hzs.1.length
  rw [getD_of hzk]
  have hac : ∀ W, Calls Try.prog 51 #[zoneV z sa sl sc] W fun e w' => e = .returned (.bool true) ∧ Below W.heap.size W w' := fun W => by
    have := isActive_any z sa sl sc W
    rwa [show activeB z.state = true by simp [activeB, hs]] at this
  have hop := fun W => isOpen_any z sa sl sc W
  rw [hs] at hop
  have hwt := fun W (h : Below w.heap.size w W) => pwith_from F D (some x) len cap i (shut z).state z.durable z.sectors sa sl sc W (hz.on (Agree.below h)) hi hm (hzs.on (Agree.below h))
  have hcl : ∀ W, Calls Try.prog 57 #[zoneV z sa sl sc] W fun e w' => e = .returned (.agg #[.int .i64 (shut z).state, .int .i64 z.durable, .slice sa sl sc]) ∧ Below W.heap.size W w' := fun W => closed_any z sa sl sc W hsl
  rw [show shut z = ⟨(shut z).state, z.durable, z.sectors⟩ from rfl]
  generalize (shut z).state = ss at *
  unfold DevPost
  have HK := Lib.hid hfd
  have HC := Lib.hid hac
  have HO := Lib.hid hop
  have HL := Lib.hid hcl
  have HW := Lib.hid hwt
  have HA := Lib.hid hA
  clear hfd hac hop hcl hwt hA hza hs hzs hsl
  obtain ⟨size, op, act, Z⟩ := D
  obtain ⟨st, du, L⟩ := z
  go_enter Try.func33, Try.ntmps33
  go_wp2_with (first
    | (go_at_call 46; ((with_reducible refine (HK.out _ HA.out).mono ?_); rintro e w1 ⟨rfl, hb1⟩; have hx1 := row_al (row_on hb1 (heap_first2 w _ _) (by simp only [World.size_alloc]; omega)) (zoneRow st du sa sl sc); have hr1 := row_al (row_on hb1 (heap_second w _ _) (by simp only [World.size_alloc]; omega)) (zoneRow st du sa sl sc); obtain ⟨y0, d0, d1, d2, d3⟩ := row4 (row_on hb1 (heap_first2 w _ _) (by simp only [World.size_alloc]; omega)); obtain ⟨y1, f0, f1, f2, f3⟩ := row4 hx1; have hq1 := heap_alloc_new w1 (zoneRow st du sa sl sc); obtain ⟨yq, g0, g1, g2⟩ := row3 hq1; have b0 := HA.out.trans (hb1.mono (by simp only [World.size_alloc]; omega)); have b1 := b0.alloc b0.size (zoneRow st du sa sl sc)))
    | (go_at_call 51; ((with_reducible refine (HC.out _).mono ?_); rintro e w2 ⟨rfl, hb2⟩; have hx2 := row_on hb2 hx1 (lt_of_block hx1); have hr2 := row_on hb2 hr1 (lt_of_block hr1); have hq2 := row_on hb2 hq1 (lt_of_block hq1); obtain ⟨y2, f0, f1, f2, f3⟩ := row4 hx2; obtain ⟨yq2, g0, g1, g2⟩ := row3 hq2; have b2 := b1.trans (hb2.mono b1.size)))
    | (go_at_call 50; ((with_reducible refine (HO.out _).mono ?_); rintro e w3 ⟨rfl, hb3⟩; have hx3 := row_on hb3 hx2 (lt_of_block hx2); have hr3 := row_on hb3 hr2 (lt_of_block hr2); have hq3 := row_on hb3 hq2 (lt_of_block hq2); obtain ⟨y3, f0, f1, f2, f3⟩ := row4 hx3; obtain ⟨yq3, g0, g1, g2⟩ := row3 hq3; have b3 := b2.trans (hb3.mono b2.size)))
    | (go_at_call 57; ((with_reducible refine (HL.out _).mono ?_); rintro e w4 ⟨rfl, hb4⟩; have hx4 := row_on hb4 hx3 (lt_of_block hx3); have hr4 := row_on hb4 hr3 (lt_of_block hr3); have hq4 := row_on hb4 hq3 (lt_of_block hq3); obtain ⟨y4, f0, f1, f2, f3⟩ := row4 hx4; obtain ⟨yq4, g0, g1, g2⟩ := row3 hq4; have b4 := b3.trans (hb4.mono b3.size)))
    | (((with_reducible refine Plan.store_lit 48 (.tmp 6) _ w1.heap.size ?_ hq4 ?_ ?_ ?_ ?_ ?_ ?_); rotate_left; (· rfl); (· rfl); (· exact zone_info); (· rfl); (· simp [Value.oneCell']); simp only [Act.put]; have hq5 := setRow_heap _ _ _ #[.int .i64 ss, .int .i64 du, .slice sa sl sc] _ _ hq4; have hx5 := (setRow_other _ w1.heap.size w.heap.size #[.int .i64 ss, .int .i64 du, .slice sa sl sc] (by have := b0.size; have := lt_of_block (row_on hb1 (heap_second w _ _) (by simp only [World.size_alloc]; omega)); omega)).trans hx4; have hr5 := (setRow_other _ w1.heap.size (w.heap.size + 1) #[.int .i64 ss, .int .i64 du, .slice sa sl sc] (by have := lt_of_block (row_on hb1 (heap_second w _ _) (by simp only [World.size_alloc]; omega)); omega)).trans hr4; have b5 := below_setRow b4 (show w.heap.size ≤ w1.heap.size from b0.size) #[.int .i64 ss, .int .i64 du, .slice sa sl sc]; generalize w4.setRow w1.heap.size #[.int .i64 ss, .int .i64 du, .slice sa sl sc] = w5 at hq5 hx5 hr5 b5 ⊢; obtain ⟨y5, f0, f1, f2, f3⟩ := row4 hx5; obtain ⟨yq5, g0, g1, g2⟩ := row3 hq5))
    | (go_at_call 48; ((with_reducible refine (HW.out _ b5).mono ?_); rintro e w6 ⟨a2, c2, rfl, hz2, hb6⟩; have hx6 := row_on hb6 hx5 (lt_of_block hx5); have hr6 := row_on hb6 hr5 (lt_of_block hr5); have hq6 := row_on hb6 hq5 (lt_of_block hq5); obtain ⟨y6, f0, f1, f2, f3⟩ := row4 hx6; obtain ⟨yq6, g0, g1, g2⟩ := row3 hq6; have b6 := b5.trans (hb6.mono b5.size)))
    | (((with_reducible refine Plan.store_lit 24 (.tmp 4) _ (w.heap.size + 1) ?_ hr6 ?_ ?_ ?_ ?_ ?_ ?_); rotate_left; (· rfl); (· rfl); (· exact dev_info); (· rfl); (· simp [Value.oneCell']); simp only [Act.put])))
  have hz3 := hz2.on (Agree.row (plus_not hF (by omega) (by have := lt_of_block hr5; omega) : ¬ Plus F w5.heap.size (w.heap.size + 1)) #[.int .i64 size, .int .i64 op, .int .i64 act, .slice a2 len c2])
  refine bodyPost_ret (Plan.results_cell_tmp (p := 4) (q := 5) rfl _ _ _ _ _ _ _ rfl (setRow_heap _ _ _ _ _ _ hr6) Try.underlying24 rfl dev_info) rfl ⟨a2, c2, rfl, hz3.mono (fun b _ hb => hb.imp id (fun h => Nat.le_trans b5.size h)), below_setRow b6 (by omega) _⟩
theorem withZ_same {D : Dev} {i : Nat} {z : Zone} (h : D.zones[i]? = some z) : withZ D i z = D := by
  have : D.zones.set i z = D.zones := by
    obtain ⟨hi, e⟩ := List.getElem?_eq_some_iff.1 h
    subst e
    exact List.set_getElem_self hi
  unfold withZ
  rw [this]
set_option maxHeartbeats 2000000 in
set_option maxRecDepth 20000 in
theorem close_closed (F : Nat → Prop) (D : Dev) (a : Option Addr) (len cap i : Nat) (w : World) (hF : ∀ b, F b → b < w.heap.size) (hz : ZonesIn w F a len cap D.zones) (hm : len ≤ 1000000) (hi : i < len) (hc : checkE D = 0) (hs : stateAt D (i : Int) = 3) :
    Calls Try.prog 33 #[devV D a len cap, .int .i64 (i : Int)] w (DevPost w F len D 0) := by
  have hl := hz.is.length
  obtain ⟨x, z, sa, sl, sc, rfl, hzk, hza, hzs⟩ := hz.zone i hi
  rw [stateAt_of hzk] at hs
  have hxb := zone_block hza
  have hfd := fun W (h : Below w.heap.size w W) => find_ok D x len cap i z sa sl sc W (hz.on (Agree.below h)).is hi hc (hza.on h hxb)
  have hA : Below w.heap.size w ((w.alloc (devRow D.size D.maxOpen D.maxActive (some x) len cap)).alloc (devRow 0 0 0 none 0 0)) := ((Below.refl _ _).alloc (Nat.le_refl _) _).alloc (by simp) _
  have hac : ∀ W, Calls Try.prog 51 #[zoneV z sa sl sc] W fun e w' => e = .returned (.bool true) ∧ Below W.heap.size W w' := fun W => by
    have := isActive_any z sa sl sc W
    rwa [show activeB z.state = true by simp [activeB, hs]] at this
  have hop : ∀ W, Calls Try.prog 50 #[zoneV z sa sl sc] W fun e w' => e = .returned (.bool false) ∧ Below W.heap.size W w' := fun W => by
    have := isOpen_any z sa sl sc W
    rwa [show openB z.state = false by simp [openB, hs]] at this
  have hwt := fun W (h : Below w.heap.size w W) => pwith_from F D (some x) len cap i z.state z.durable z.sectors sa sl sc W (hz.on (Agree.below h)) hi hm (hzs.on (Agree.below h))
  rw [← withZ_same hzk]
  have hwt : ∀ W, Below w.heap.size w W → Calls Try.prog 48 #[devV (withZ D i z) (some x) len cap, .int .i64 (i : Int), zoneV z sa sl sc] W fun e w' => ∃ a' cap', e = .returned (devV (withZ D i z) a' len cap') ∧ ZonesIn w' (Plus F W.heap.size) a' len cap' (withZ D i z).zones ∧ Below W.heap.size W w' := hwt
  rw [withZ_same hzk] at hwt ⊢
  unfold DevPost
  have HK := Lib.hid hfd
  have HC := Lib.hid hac
  have HO := Lib.hid hop
  have HW := Lib.hid hwt
  have HA := Lib.hid hA
  clear hfd hac hop hwt hA hza hs hzs
  obtain ⟨size, op, act, Z⟩ := D
  obtain ⟨st, du, L⟩ := z
  go_enter Try.func33, Try.ntmps33
  go_wp2_with (first
    | (go_at_call 46; ((with_reducible refine (HK.out _ HA.out).mono ?_); rintro e w1 ⟨rfl, hb1⟩; have hx1 := row_al (row_on hb1 (heap_first2 w _ _) (by simp only [World.size_alloc]; omega)) (zoneRow st du sa sl sc); have hr1 := row_al (row_on hb1 (heap_second w _ _) (by simp only [World.size_alloc]; omega)) (zoneRow st du sa sl sc); obtain ⟨y0, d0, d1, d2, d3⟩ := row4 (row_on hb1 (heap_first2 w _ _) (by simp only [World.size_alloc]; omega)); obtain ⟨y1, f0, f1, f2, f3⟩ := row4 hx1; have hq1 := heap_alloc_new w1 (zoneRow st du sa sl sc); obtain ⟨yq, g0, g1, g2⟩ := row3 hq1; have b0 := HA.out.trans (hb1.mono (by simp only [World.size_alloc]; omega)); have b1 := b0.alloc b0.size (zoneRow st du sa sl sc)))
    | (go_at_call 51; ((with_reducible refine (HC.out _).mono ?_); rintro e w2 ⟨rfl, hb2⟩; have hx2 := row_on hb2 hx1 (lt_of_block hx1); have hr2 := row_on hb2 hr1 (lt_of_block hr1); have hq2 := row_on hb2 hq1 (lt_of_block hq1); obtain ⟨y2, f0, f1, f2, f3⟩ := row4 hx2; obtain ⟨yq2, g0, g1, g2⟩ := row3 hq2; have b2 := b1.trans (hb2.mono b1.size)))
    | (go_at_call 50; ((with_reducible refine (HO.out _).mono ?_); rintro e w3 ⟨rfl, hb3⟩; have hx3 := row_on hb3 hx2 (lt_of_block hx2); have hr3 := row_on hb3 hr2 (lt_of_block hr2); have hq3 := row_on hb3 hq2 (lt_of_block hq2); obtain ⟨y3, f0, f1, f2, f3⟩ := row4 hx3; obtain ⟨yq3, g0, g1, g2⟩ := row3 hq3; have b3 := b2.trans (hb3.mono b2.size)))
    | (go_at_call 48; ((with_reducible refine (HW.out _ b3).mono ?_); rintro e w4 ⟨a2, c2, rfl, hz2, hb4⟩; have hx4 := row_on hb4 hx3 (lt_of_block hx3); have hr4 := row_on hb4 hr3 (lt_of_block hr3); have hq4 := row_on hb4 hq3 (lt_of_block hq3); obtain ⟨y4, f0, f1, f2, f3⟩ := row4 hx4; obtain ⟨yq4, g0, g1, g2⟩ := row3 hq4; have b4 := b3.trans (hb4.mono b3.size)))
    | (((with_reducible refine Plan.store_lit 24 (.tmp 4) _ (w.heap.size + 1) ?_ hr4 ?_ ?_ ?_ ?_ ?_ ?_); rotate_left; (· rfl); (· rfl); (· exact dev_info); (· rfl); (· simp [Value.oneCell']); simp only [Act.put])))
  have hz3 := hz2.on (Agree.row (plus_not hF (by omega) (by have := lt_of_block hr3; omega) : ¬ Plus F w3.heap.size (w.heap.size + 1)) #[.int .i64 size, .int .i64 op, .int .i64 act, .slice a2 len c2])
  refine bodyPost_ret (Plan.results_cell_tmp (p := 4) (q := 5) rfl _ _ _ _ _ _ _ rfl (setRow_heap _ _ _ _ _ _ hr4) Try.underlying24 rfl dev_info) rfl ⟨a2, c2, rfl, hz3.mono (fun b _ hb => hb.imp id (fun h => Nat.le_trans b3.size h)), below_setRow b4 (by omega) _⟩
theorem close_any (F : Nat → Prop) (D : Dev) (a : Option Addr) (len cap : Nat) (k : Int) (w : World) (hF : ∀ b, F b → b < w.heap.size) (hz : ZonesIn w F a len cap D.zones) (hm : len ≤ 1000000) :
    Calls Try.prog 33 #[devV D a len cap, .int .i64 k] w (DevPost w F len (closeR D k) (closeE D k)) := by
  by_cases hE : zoneE D k = 0
  · obtain ⟨hc, h1, h2⟩ := zoneE_of hE
    obtain ⟨i, rfl⟩ : ∃ i : Nat, k = (i : Int) := ⟨k.toNat, by omega⟩
    have hi : i < len := by rw [hz.is.length] at h2; omega
    cases hact : activeB (stateAt D (i : Int)) with
    | false =>
      have he : closeE D (i : Int) = 6 := by
        unfold closeE beginE
        by_cases h5 : stateAt D (i : Int) = 5 <;> simp [hE, h5, hact]
      rw [show closeR D (i : Int) = D by simp [closeR, he], he]
      exact close_none F D a len cap i w hz hi hc hact
    | true =>
      have h5 : stateAt D (i : Int) ≠ 5 := fun h => by rw [h] at hact; cases hact
      have he : closeE D (i : Int) = 0 := by simp [closeE, beginE, hE, h5, hact]
      by_cases h3 : stateAt D (i : Int) = 3
      · rw [show closeR D (i : Int) = D by simp [closeR, he, h3], he]
        exact close_closed F D a len cap i w hF hz hm hi hc h3
      · have ho : openB (stateAt D (i : Int)) = true := by
          cases ho : openB (stateAt D (i : Int)) with
          | true => rfl
          | false => simp [activeB, ho, h3] at hact
        rw [show closeR D (i : Int) = withZ D i (shut (D.zones.getD i empty)) by simp [closeR, he, h3], he]
        exact close_open F D a len cap i w hF hz hm hi hc ho
  · have hb : beginE D k = zoneE D k := by simp [beginE, hE]
    have he : closeE D k = zoneE D k := by simp [closeE, hb, hE]
    rw [show closeR D k = D by simp [closeR, he, hE], he]
    exact close_err F D a len cap k w hz hE
end Go.Proofs.Ytlmlmgegnnikeaa
