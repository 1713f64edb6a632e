/- Texts that belong together, part 10. -/
import Derived.Test.YtlplomofgbmgaaaPack9
import Derived.Laws.CopyRow

/- The walks of the program's possible, valid, full, closed. -/
namespace Go.Proofs.Ytlplomofgbmgaaa
open Go.RowKit Plan ZnsMath

/-- the numbers of a device -/
def possibleB (zones size op act : Int) : Bool := decide (¬(zones < 1 ∨ 32 < zones ∨ size < 3 ∨ 64 < size ∨ act < 1 ∨ zones < act ∨ op < 1 ∨ act < op))
set_option maxHeartbeats 1000000 in
theorem possible_any (zones size op act : Int) (w : World) :
    Calls Try.prog 52 #[.int .i64 zones, .int .i64 size, .int .i64 op, .int .i64 act] w fun e w' => e = .returned (.bool (possibleB zones size op act)) ∧ w = w' := by
  have hb : possibleB zones size op act = (decide (1 ≤ zones) && decide (zones ≤ 32) && decide (3 ≤ size) && decide (size ≤ 64) && decide (1 ≤ op) && decide (op ≤ act) && decide (act ≤ zones)) := by
    unfold possibleB
    rw [Bool.eq_iff_iff]
    simp only [decide_eq_true_eq, Bool.and_eq_true]
    omega
  rw [hb]
  clear hb
  cases h1 : decide (1 ≤ zones) <;> cases h2 : decide (zones ≤ 32) <;> cases h3 : decide (3 ≤ size) <;> cases h4 : decide (size ≤ 64) <;> cases h5 : decide (1 ≤ op) <;> cases h6 : decide (op ≤ act) <;> cases h7 : decide (act ≤ zones)
  all_goals
    go_enter Try.func52, Try.ntmps52
    go_wp2
    go_ret
    exact ⟨rfl, rfl⟩
end Go.Proofs.Ytlplomofgbmgaaa

/- The walks of the program's valid: the search for a sector of another length, and the zone's test. -/
namespace Go.Proofs.Ytlplomofgbmgaaa
open Go.RowKit Plan ZnsMath

theorem badSize_any (s : ByteArray) (w : World) :
    Calls Try.prog 60 #[.string s] w fun e w' => e = .returned (.bool !(s.size == 40)) ∧ w = w' := by
  go_enter Try.func60, Try.ntmps60
  go_wp2
  all_goals
    go_ret
    refine ⟨ret_bool ?_, rfl⟩
    rw [Bool.eq_iff_iff]
    simp
    omega
abbrev badV : Value := .func (Fn.func 60) #[] #[]
set_option maxHeartbeats 1000000 in
theorem indexBad_any (L : List ByteArray) (a : Option Addr) (len cap : Nat) (w : World) (hs : IsStrs w a len cap L) :
    Calls Try.prog 65 #[.slice a len cap, badV] w fun e w' => (∃ r : Int, e = .returned (.int .i64 r) ∧ decide (0 ≤ r) = !sizesB L) ∧ w = w' := by
  have hl := hs.length
  have hm := hs.len_le
  have hx : ∀ i : Nat, i < len → ∃ x s, a = some x ∧ L[i]? = some s ∧ w.cell? (x.add i) = some (.string s) := fun i hi => by
    obtain ⟨x, k1, k2⟩ := hs.some (by omega)
    exact ⟨x, L[i]'(by omega), k1, List.getElem?_eq_getElem _, (k2 i _ (List.getElem?_eq_getElem _)).1⟩
  have HX := Lib.hid hx
  have HL := Lib.hid hl
  clear hl hs hx
  go_enter Try.func65, Try.ntmps65
  go_wp2_with fail
  go_loop [8] (fun c => ∃ k : Nat, c = .int .i64 k ∧ k ≤ len ∧ sizesB (L.take k) = true) (fun c => len - (intOf c).toNat)
  case atStart => exact ⟨0, rfl, by omega, rfl⟩
  case round =>
    obtain ⟨k, rfl, hk, hsz⟩ := hrel
    by_cases hlt : k < len
    · obtain ⟨x, s, rfl, hsk, hc⟩ := HX.out k hlt
      have hkI : (k : Int) < (len : Int) := by omega
      have hnext : L.take (k + 1) = L.take k ++ [s] := by rw [List.take_add_one, hsk]; rfl
      have hsn := sizesB_snoc (L.take k) s
      rw [← hnext, hsz, Bool.true_and] at hsn
      cases h40 : (s.size == 40) with
      | true =>
        rw [h40] at hsn
        go_wp2_with (go_at_call 60; ((with_reducible refine (badSize_any _ _).mono ?_); rintro e w1 ⟨rfl, rfl⟩; rw [h40]))
        go_round
        case rel => exact ⟨k + 1, by go_num, by omega, hsn⟩
        case measure => simp [intOf]; omega
      | false =>
        rw [h40] at hsn
        have hbad : sizesB L = false := by
          rw [← List.take_append_drop (k + 1) L]
          exact sizesB_more _ _ hsn
        go_wp2_with (go_at_call 60; ((with_reducible refine (badSize_any _ _).mono ?_); rintro e w1 ⟨rfl, rfl⟩; rw [h40]))
        go_ret
        exact ⟨⟨_, rfl, by rw [hbad]; simp⟩, rfl⟩
    · obtain rfl : k = len := by omega
      have hfull : L.take k = L := List.take_of_length_le (by rw [HL.out]; exact Nat.le_refl _)
      rw [hfull] at hsz
      go_wp2_with fail
      go_ret
      exact ⟨⟨_, rfl, by simp⟩, rfl⟩
theorem containsBad_any (L : List ByteArray) (a : Option Addr) (len cap : Nat) (w : World) (hs : IsStrs w a len cap L) :
    Calls Try.prog 59 #[.slice a len cap, badV] w fun e w' => e = .returned (.bool !sizesB L) ∧ w = w' := by
  have H := Lib.hid (indexBad_any L a len cap w hs)
  clear hs
  go_enter Try.func59, Try.ntmps59
  go_wp2_with (go_at_call 65; ((with_reducible refine H.out.mono ?_); rintro e w1 ⟨⟨r, rfl, hr⟩, rfl⟩))
  go_ret
  exact ⟨ret_bool (by first | exact hr | rfl), rfl⟩
set_option maxHeartbeats 1000000 in
set_option maxRecDepth 20000 in
theorem valid_any (z : Zone) (size : Int) (a : Option Addr) (len cap : Nat) (w : World) (hs : IsStrs w a len cap z.sectors) :
    Calls Try.prog 53 #[zoneV z a len cap, .int .i64 size] w fun e w' => e = .returned (.bool (rightB z size)) ∧ Below w.heap.size w w' := by
  have hl := hs.length
  have hm := hs.len_le
  have hcb := fun W (h : Below w.heap.size w W) => containsBad_any z.sectors a len cap W (hs.on h (Nat.le_refl _))
  have hr : rightB z size = (if z.state < 0 ∨ 5 < z.state then false else if size < len ∨ z.durable < 0 ∨ (len : Int) < z.durable then false else if z.state = 0 ∨ z.state = 5 then len == 0 else if z.state = 4 ∧ z.durable ≠ len then false else if z.state ≠ 4 ∧ (len : Int) = size then false else sizesB z.sectors) := by
    unfold rightB
    rw [hl]
    by_cases h1 : z.state < 0 ∨ 5 < z.state
    · rw [if_pos h1]
      have : decide (¬(z.state < 0 ∨ 5 < z.state ∨ size < (len : Int) ∨ z.durable < 0 ∨ (len : Int) < z.durable)) = false := by
        rw [decide_eq_false_iff_not]; omega
      rw [this]; rfl
    · rw [if_neg h1]
      by_cases h2 : size < len ∨ z.durable < 0 ∨ (len : Int) < z.durable
      · rw [if_pos h2]
        have : decide (¬(z.state < 0 ∨ 5 < z.state ∨ size < (len : Int) ∨ z.durable < 0 ∨ (len : Int) < z.durable)) = false := by
          rw [decide_eq_false_iff_not]; omega
        rw [this]; rfl
      · rw [if_neg h2]
        have : decide (¬(z.state < 0 ∨ 5 < z.state ∨ size < (len : Int) ∨ z.durable < 0 ∨ (len : Int) < z.durable)) = true := by
          rw [decide_eq_true_eq]; omega
        rw [this, Bool.true_and]
        by_cases h4 : z.state = 0 ∨ z.state = 5
        · rw [if_pos h4, if_pos h4]
          by_cases h0 : len = 0
          · have : z.sectors = [] := List.length_eq_zero_iff.1 (hl.trans h0)
            rw [this, h0]; rfl
          · simp [h0]
        · rw [if_neg h4, if_neg h4]
          by_cases h5 : z.state = 4
          · simp [h5]
            by_cases h6 : z.durable = len <;> simp [h6]
          · simp [h5]
            by_cases h6 : (len : Int) = size
            · simp [h6]
            · have : (len : Int) < size := by omega
              simp [h6, this]
  rw [hr]
  clear hr
  obtain ⟨st, du, L⟩ := z
  change Calls Try.prog 53 #[.agg #[.int .i64 st, .int .i64 du, .slice a len cap], .int .i64 size] w fun e w' => e = .returned (.bool (if st < 0 ∨ 5 < st then false else if size < len ∨ du < 0 ∨ (len : Int) < du then false else if st = 0 ∨ st = 5 then len == 0 else if st = 4 ∧ du ≠ len then false else if st ≠ 4 ∧ (len : Int) = size then false else sizesB L)) ∧ Below w.heap.size w w'
  have HC := Lib.hid hcb
  have hB1 : Below w.heap.size w (w.alloc (zoneRow st du a len cap)) := (Below.refl _ _).alloc (Nat.le_refl _) _
  have HB := Lib.hid hB1
  clear hcb hl hs hB1
  have goal : ∀ (R : Bool), (st < 0 ∧ R = false) ∨ (¬ st < 0 ∧ 5 < st ∧ R = false) ∨
      (¬ st < 0 ∧ ¬ 5 < st ∧ size < (len : Int) ∧ R = false) ∨ (¬ st < 0 ∧ ¬ 5 < st ∧ ¬ size < (len : Int) ∧ du < 0 ∧ R = false) ∨ (¬ st < 0 ∧ ¬ 5 < st ∧ ¬ size < (len : Int) ∧ ¬ du < 0 ∧ (len : Int) < du ∧ R = false) ∨
      (¬ st < 0 ∧ ¬ 5 < st ∧ ¬ size < (len : Int) ∧ ¬ du < 0 ∧ ¬ (len : Int) < du ∧ (st == 0) = true ∧ R = (len == 0)) ∨
      (¬ st < 0 ∧ ¬ 5 < st ∧ ¬ size < (len : Int) ∧ ¬ du < 0 ∧ ¬ (len : Int) < du ∧ (st == 0) = false ∧ (st == 5) = true ∧ R = (len == 0)) ∨
      (¬ st < 0 ∧ ¬ 5 < st ∧ ¬ size < (len : Int) ∧ ¬ du < 0 ∧ ¬ (len : Int) < du ∧ (st == 0) = false ∧ (st == 5) = false ∧ (st == 4) = true ∧ (st != 4) = false ∧ (du != (len : Int)) = true ∧ R = false) ∨
      (¬ st < 0 ∧ ¬ 5 < st ∧ ¬ size < (len : Int) ∧ ¬ du < 0 ∧ ¬ (len : Int) < du ∧ (st == 0) = false ∧ (st == 5) = false ∧ (st == 4) = true ∧ (st != 4) = false ∧ (du != (len : Int)) = false ∧ R = sizesB L) ∨
      (¬ st < 0 ∧ ¬ 5 < st ∧ ¬ size < (len : Int) ∧ ¬ du < 0 ∧ ¬ (len : Int) < du ∧ (st == 0) = false ∧ (st == 5) = false ∧ (st == 4) = false ∧ (st != 4) = true ∧ ((len : Int) == size) = true ∧ R = false) ∨
      (¬ st < 0 ∧ ¬ 5 < st ∧ ¬ size < (len : Int) ∧ ¬ du < 0 ∧ ¬ (len : Int) < du ∧ (st == 0) = false ∧ (st == 5) = false ∧ (st == 4) = false ∧ (st != 4) = true ∧ ((len : Int) == size) = false ∧ R = sizesB L) →
      Calls Try.prog 53 #[.agg #[.int .i64 st, .int .i64 du, .slice a len cap], .int .i64 size] w fun e w' => e = .returned (.bool R) ∧ Below w.heap.size w w' := by
    intro R h
    have z0 := zero_beq len
    rcases h with ⟨h1, rfl⟩ | ⟨h1, h2, rfl⟩ | ⟨h1, h2, h3, rfl⟩ | ⟨h1, h2, h3, h4, rfl⟩ | ⟨h1, h2, h3, h4, h5, rfl⟩ | ⟨h1, h2, h3, h4, h5, h6, rfl⟩ | ⟨h1, h2, h3, h4, h5, h6, h7, rfl⟩ | ⟨h1, h2, h3, h4, h5, h6, h7, h8, h9, h10, rfl⟩ | ⟨h1, h2, h3, h4, h5, h6, h7, h8, h9, h10, rfl⟩ | ⟨h1, h2, h3, h4, h5, h6, h7, h8, h9, h10, rfl⟩ | ⟨h1, h2, h3, h4, h5, h6, h7, h8, h9, h10, rfl⟩
    all_goals
      go_enter Try.func53, Try.ntmps53
      go_wp2_with (go_at_call 59; ((with_reducible refine (HC.out _ HB.out).mono ?_); rintro e w1 ⟨rfl, rfl⟩))
      go_ret
      first
        | exact ⟨rfl, HB.out⟩
        | exact ⟨ret_bool (by first | exact z0 | rw [Bool.not_not]), HB.out⟩
  by_cases h1 : st < 0 ∨ 5 < st
  · rw [if_pos h1]
    by_cases p : st < 0
    · exact goal _ (.inl ⟨p, rfl⟩)
    · exact goal _ (.inr (.inl ⟨p, by omega, rfl⟩))
  rw [if_neg h1]
  by_cases h2 : size < len ∨ du < 0 ∨ (len : Int) < du
  · rw [if_pos h2]
    by_cases p : size < (len : Int)
    · exact goal _ (.inr (.inr (.inl ⟨by omega, by omega, p, rfl⟩)))
    · by_cases p2 : du < 0
      · exact goal _ (.inr (.inr (.inr (.inl ⟨by omega, by omega, p, p2, rfl⟩))))
      · exact goal _ (.inr (.inr (.inr (.inr (.inl ⟨by omega, by omega, p, p2, by omega, rfl⟩)))))
  rw [if_neg h2]
  have p1 : ¬ st < 0 := by omega
  have p2 : ¬ 5 < st := by omega
  have p3 : ¬ size < (len : Int) := by omega
  have p4 : ¬ du < 0 := by omega
  have p5 : ¬ (len : Int) < du := by omega
  by_cases h3 : st = 0
  · rw [if_pos (.inl h3)]; exact goal _ (.inr (.inr (.inr (.inr (.inr (.inl ⟨p1, p2, p3, p4, p5, by simp [h3], rfl⟩))))))
  by_cases h4 : st = 5
  · rw [if_pos (.inr h4)]; exact goal _ (.inr (.inr (.inr (.inr (.inr (.inr (.inl ⟨p1, p2, p3, p4, p5, by simp [h3], by simp [h4], rfl⟩)))))))
  rw [if_neg (by omega)]
  by_cases h5 : st = 4
  · by_cases h6 : du = len
    · rw [if_neg (fun h => h.2 h6), if_neg (fun h => h.1 h5)]
      exact goal _ (.inr (.inr (.inr (.inr (.inr (.inr (.inr (.inr (.inl ⟨p1, p2, p3, p4, p5, by simp [h3], by simp [h4], by simp [h5], by simp [h5], by simp [h6], rfl⟩)))))))))
    · rw [if_pos ⟨h5, h6⟩]
      exact goal _ (.inr (.inr (.inr (.inr (.inr (.inr (.inr (.inl ⟨p1, p2, p3, p4, p5, by simp [h3], by simp [h4], by simp [h5], by simp [h5], by simp [h6], rfl⟩))))))))
  · rw [if_neg (fun h => h5 h.1)]
    by_cases h6 : (len : Int) = size
    · rw [if_pos ⟨h5, h6⟩]
      exact goal _ (.inr (.inr (.inr (.inr (.inr (.inr (.inr (.inr (.inr (.inl ⟨p1, p2, p3, p4, p5, by simp [h3], by simp [h4], by simp [h5], by simp [h5], by simp [h6], rfl⟩))))))))))
    · rw [if_neg (fun h => h6 h.2)]
      exact goal _ (.inr (.inr (.inr (.inr (.inr (.inr (.inr (.inr (.inr (.inr ⟨p1, p2, p3, p4, p5, by simp [h3], by simp [h4], by simp [h5], by simp [h5], by simp [h6], rfl⟩))))))))))
end Go.Proofs.Ytlplomofgbmgaaa

/- The walk of the program's Check. -/
namespace Go.Proofs.Ytlplomofgbmgaaa
open Go.RowKit Plan ZnsMath

theorem configB_eq (D : Dev) : configB D = possibleB (D.zones.length : Int) D.size D.maxOpen D.maxActive := rfl
set_option maxHeartbeats 2000000 in
set_option maxRecDepth 20000 in
theorem check_zns (D : Dev) (a : Option Addr) (len cap : Nat) (w : World) (hz : IsZones w a len cap D.zones) :
    Calls Try.prog 42 #[devV D a len cap] w fun e w' => e = .returned (.int .i64 (checkE D)) ∧ Below w.heap.size w w' := by
  have hl := hz.length
  have hm := hz.len_le
  have hps := fun W => possible_any (len : Int) D.size D.maxOpen D.maxActive W
  have hcn := fun W (h : Below w.heap.size w W) => counts_any D a len cap W (hz.on h (Nat.le_refl _))
  have hR := fun W (h : Below w.heap.size w W) i (hi : i < len) => (hz.on h (Nat.le_refl _)).zone i hi
  have hcf := configB_eq D
  rw [hl] at hcf
  rw [← hcf] at hps
  have hRR : checkE D = if configB D = false then 11 else if rightsB D.zones D.size = false then 6 else if D.maxOpen < countO D.zones ∨ D.maxActive < countA D.zones then 6 else 0 := rfl
  generalize checkE D = RR at *
  generalize configB D = CB at *
  obtain ⟨size, op, act, Z⟩ := D
  change Calls Try.prog 42 #[.agg #[.int .i64 size, .int .i64 op, .int .i64 act, .slice a len cap]] w _
  try simp only at hps hcn hR hRR hl
  have HP := Lib.hid hps
  have HC := Lib.hid hcn
  have HR := Lib.hid hR
  have HRR := Lib.hid hRR
  have HL := Lib.hid hl
  clear hps hcn hR hRR hl hz hcf
  have HB1 := Lib.hid ((Below.refl w.heap.size w).alloc (Nat.le_refl _) (devRow size op act a len cap))
  cases CB with
  | false =>
    have hR11 : RR = 11 := by rw [HRR.out, if_pos rfl]
    subst hR11
    go_enter Try.func42, Try.ntmps42
    go_wp2_with (go_at_call 52; ((with_reducible refine (HP.out _).mono ?_); rintro e w1 ⟨rfl, rfl⟩))
    go_ret
    exact ⟨rfl, HB1.out⟩
  | true =>
    have HRR2 : Hid (RR = if rightsB Z size = false then 6 else if op < countO Z ∨ act < countA Z then 6 else 0) := Lib.hid (by rw [HRR.out, if_neg (by decide)])
    go_enter Try.func42, Try.ntmps42
    go_wp2_with (go_at_call 52; ((with_reducible refine (HP.out _).mono ?_); rintro e w1 ⟨rfl, rfl⟩))
    go_loopw [21] (fun c wr => ∃ k : Nat, c = .int .i64 k ∧ k ≤ len ∧ rightsB (Z.take k) size = true ∧ wr.heap[w.heap.size]? = some (.cells #[.int .i64 size, .int .i64 op, .int .i64 act, .slice a len cap] 24 (0, 0)) ∧ Below w.heap.size w wr) (fun c _ => len - (intOf c).toNat)
    case atStart => exact ⟨0, rfl, by omega, rfl, heap_alloc_new _ _, HB1.out⟩
    case round =>
      obtain ⟨k, rfl, hk, hrt, hbox, hbl⟩ := hrel
      obtain ⟨y, d0, d1, d2, d3⟩ := row4 hbox
      by_cases hlt : k < len
      · obtain ⟨x, z, sa, sl, sc, rfl, hzk, ⟨c0, c1, c2⟩, hzs⟩ := HR.out wr hbl k hlt
        have hkI : (k : Int) < (len : Int) := by omega
        have hnext : Z.take (k + 1) = Z.take k ++ [z] := by rw [List.take_add_one, hzk]; rfl
        have hsn := rightsB_snoc (Z.take k) z size
        rw [← hnext, hrt, Bool.true_and] at hsn
        have hbox2 := row_al hbox (zoneRow z.state z.durable sa sl sc)
        obtain ⟨y2, f0, f1, f2, f3⟩ := row4 hbox2
        have bl1 := hbl.alloc hbl.size (zoneRow z.state z.durable sa sl sc)
        have HV := Lib.hid (valid_any z size sa sl sc (wr.alloc (zoneRow z.state z.durable sa sl sc)) (hzs.on ((Below.refl _ _).alloc (Nat.le_refl _) _) (Nat.le_refl _)))
        cases hrz : rightB z size with
        | true =>
          rw [hrz] at hsn HV
          go_wp2_with (go_at_call 53; ((with_reducible refine HV.out.mono ?_); rintro e w4 ⟨rfl, hb4⟩; have hbox4 := row_on hb4 hbox2 y2))
          go_roundw
          case rel => exact ⟨k + 1, by go_num, by omega, hsn, hbox4, bl1.trans (hb4.mono bl1.size)⟩
          case measure => simp [intOf]; omega
        | false =>
          rw [hrz] at hsn HV
          have hbad : rightsB Z size = false := by
            rw [← List.take_append_drop (k + 1) Z]
            exact rightsB_more _ _ _ hsn
          have hR6 : RR = 6 := by rw [HRR2.out, if_pos hbad]
          subst hR6
          go_wp2_with (go_at_call 53; ((with_reducible refine HV.out.mono ?_); rintro e w4 ⟨rfl, hb4⟩))
          go_ret
          exact ⟨rfl, bl1.trans (hb4.mono bl1.size)⟩
      · obtain rfl : k = len := by omega
        have hfull : Z.take k = Z := List.take_of_length_le (by rw [HL.out]; exact Nat.le_refl _)
        rw [hfull] at hrt
        have HRR3 : Hid (RR = if op < countO Z ∨ act < countA Z then 6 else 0) := Lib.hid (by rw [HRR2.out, if_neg (by rw [hrt]; decide)])
        go_wp2_with (go_at_call 54; ((with_reducible refine (HC.out _ hbl).mono ?_); rintro e w4 ⟨rfl, hb4⟩; have hbox4 := row_on hb4 hbox y; obtain ⟨y4, d0, d1, d2, d3⟩ := row4 hbox4))
        all_goals
          go_ret
          refine ⟨ret_i64 ?_, hbl.trans (hb4.mono hbl.size)⟩
          rw [HRR3.out]
          first | rw [if_pos (by omega)] | rw [if_neg (by omega)]
end Go.Proofs.Ytlplomofgbmgaaa

/- The walks of the program's find and online. -/
namespace Go.Proofs.Ytlplomofgbmgaaa
open Go.RowKit Plan ZnsMath

theorem heap_first2 (w : World) (a b : Obj) : ((w.alloc a).alloc b).heap[w.heap.size]? = some a := row_al (heap_alloc_new w a) b
end Go.Proofs.Ytlplomofgbmgaaa

/- Zoned devices as plain lists: how the numbers of open and of active zones change. -/
namespace Go.Proofs.Ytlplomofgbmgaaa
open ZnsMath

theorem countO_cons (y : Zone) (Z : List Zone) : countO (y :: Z) = (if openB y.state = true then 1 else 0) + countO Z := by
  cases h : openB y.state <;> simp [countO, h]; omega
theorem countA_cons (y : Zone) (Z : List Zone) : countA (y :: Z) = (if activeB y.state = true then 1 else 0) + countA Z := by
  cases h : activeB y.state <;> simp [countA, h]; omega
theorem countO_set : ∀ (Z : List Zone) (k : Nat) (y z : Zone), Z[k]? = some y → countO (Z.set k z) + (if openB y.state = true then 1 else 0) = countO Z + (if openB z.state = true then 1 else 0)
  | [], k, y, z, h => by cases h
  | x :: Z, 0, y, z, h => by
    obtain rfl : x = y := by simpa using h
    rw [List.set_cons_zero, countO_cons, countO_cons]
    omega
  | x :: Z, k + 1, y, z, h => by
    have ih := countO_set Z k y z (by simpa using h)
    rw [List.set_cons_succ, countO_cons, countO_cons]
    omega
theorem countA_set : ∀ (Z : List Zone) (k : Nat) (y z : Zone), Z[k]? = some y → countA (Z.set k z) + (if activeB y.state = true then 1 else 0) = countA Z + (if activeB z.state = true then 1 else 0)
  | [], k, y, z, h => by cases h
  | x :: Z, 0, y, z, h => by
    obtain rfl : x = y := by simpa using h
    rw [List.set_cons_zero, countA_cons, countA_cons]
    omega
  | x :: Z, k + 1, y, z, h => by
    have ih := countA_set Z k y z (by simpa using h)
    rw [List.set_cons_succ, countA_cons, countA_cons]
    omega
theorem check_parts {D : Dev} (h : checkE D = 0) : configB D = true ∧ rightsB D.zones D.size = true ∧ (countO D.zones : Int) ≤ D.maxOpen ∧ (countA D.zones : Int) ≤ D.maxActive := by
  unfold checkE at h
  split at h
  · cases h
  · rename_i h1
    split at h
    · cases h
    · rename_i h2
      split at h
      · cases h
      · exact ⟨by simpa using h1, by simpa using h2, by omega, by omega⟩
theorem check_of {D : Dev} (h1 : configB D = true) (h2 : rightsB D.zones D.size = true) (h3 : (countO D.zones : Int) ≤ D.maxOpen) (h4 : (countA D.zones : Int) ≤ D.maxActive) : checkE D = 0 := by
  unfold checkE
  rw [if_neg (by simp [h1]), if_neg (by simp [h2]), if_neg (by omega)]
theorem config_parts {D : Dev} (h : configB D = true) : 1 ≤ D.zones.length ∧ D.zones.length ≤ 32 ∧ 3 ≤ D.size ∧ D.size ≤ 64 ∧ 1 ≤ D.maxOpen ∧ D.maxOpen ≤ D.maxActive ∧ D.maxActive ≤ D.zones.length := by
  unfold configB at h
  simp only [decide_eq_true_eq] at h
  omega
/-- closing a zone that an append opened -/
theorem closing_counts {Z : List Zone} {k : Nat} {y : Zone} (h : Z[k]? = some y) (hs : y.state = 1) : countO (Z.set k (shut y)) + 1 = countO Z ∧ countA (Z.set k (shut y)) ≤ countA Z := by
  have h1 := countO_set Z k y (shut y) h
  have h2 := countA_set Z k y (shut y) h
  have a1 : openB y.state = true := by rw [hs]; rfl
  have a2 : activeB y.state = true := by rw [hs]; rfl
  rw [a1] at h1
  rw [a2] at h2
  have a3 : openB (shut y).state = false := by
    unfold shut
    by_cases h : y.sectors.length = 0 <;> simp [h, openB]
  rw [a3] at h1
  simp only [if_true] at h1 h2
  refine ⟨by simpa using h1, ?_⟩
  split at h2 <;> omega
end Go.Proofs.Ytlplomofgbmgaaa

/- The example of the chapter, as plain lists. -/
namespace Go.Proofs.Ytlplomofgbmgaaa
open ZnsMath

def exD0 : Dev := ⟨3, 1, 2, [empty, empty]⟩
def exD1 (S : ByteArray) : Dev := ⟨3, 1, 2, [⟨1, 0, [S]⟩, empty]⟩
def exD2 (S : ByteArray) : Dev := ⟨3, 1, 2, [⟨3, 0, [S]⟩, ⟨1, 0, [S]⟩]⟩
theorem ex_new : newE 2 3 1 2 = 0 ∧ newR 2 3 1 2 = exD0 := by
  have h : newE 2 3 1 2 = 0 := by decide
  exact ⟨h, by unfold newR; rw [if_pos h]; rfl⟩
theorem ex_one {S : ByteArray} (h : S.size = 40) : appendE exD0 0 S = 0 ∧ appendO exD0 0 S = 0 ∧ appendR exD0 0 S = exD1 S := by
  have hz : zoneE exD0 0 = 0 := by decide
  have hr : roomE exD0 0 = 0 := by decide
  have he : appendE exD0 0 S = 0 := by
    unfold appendE
    rw [if_neg (by simp [hz]), if_neg (by simp [h]), if_neg (by decide), if_neg (by decide), if_neg (by decide)]
    exact hr
  have hd : ready exD0 0 = exD0 := by unfold ready; rw [if_neg (by decide)]; rfl
  refine ⟨he, ?_, ?_⟩
  · unfold appendO; rw [if_pos he, hd]; rfl
  · unfold appendR; rw [if_pos he, hd]; rfl
theorem ex_check1 {S : ByteArray} (h : S.size = 40) : checkE (exD1 S) = 0 := by
  refine check_of rfl ?_ (show ((1 : Nat) : Int) ≤ 1 by decide) (show ((1 : Nat) : Int) ≤ 2 by decide)
  simp [exD1, rightsB, rightB, sizesB, h, empty]
theorem ex_check2 {S : ByteArray} (h : S.size = 40) : checkE (exD2 S) = 0 := by
  refine check_of rfl ?_ (show ((1 : Nat) : Int) ≤ 1 by decide) (show ((2 : Nat) : Int) ≤ 2 by decide)
  simp [exD2, rightsB, rightB, sizesB, h]
theorem ex_two {S : ByteArray} (h : S.size = 40) : appendE (exD1 S) 1 S = 0 ∧ appendO (exD1 S) 1 S = 0 ∧ appendR (exD1 S) 1 S = exD2 S := by
  have hz : zoneE (exD1 S) 1 = 0 := by unfold zoneE; rw [ex_check1 h]; rfl
  have hr : roomE (exD1 S) 1 = 0 := rfl
  have he : appendE (exD1 S) 1 S = 0 := by
    unfold appendE
    rw [if_neg (by simp [hz]), if_neg (by simp [h])]
    exact hr
  refine ⟨he, ?_, ?_⟩
  · unfold appendO; rw [if_pos he]; rfl
  · unfold appendR; rw [if_pos he]; rfl
theorem ex_read {S : ByteArray} (h : S.size = 40) : readE (exD2 S) 0 0 = 0 ∧ readR (exD2 S) 0 0 = S := by
  have hb : beginE (exD2 S) 0 = 0 := by
    unfold beginE zoneE
    rw [ex_check2 h]
    rfl
  have he : readE (exD2 S) 0 0 = 0 := by
    unfold readE
    rw [hb]
    rfl
  exact ⟨he, by unfold readR; rw [if_pos he]; rfl⟩
end Go.Proofs.Ytlplomofgbmgaaa

/- The walk of the program's with: the zones are copied, one is changed. -/
namespace Go.Proofs.Ytlplomofgbmgaaa
open Go.RowKit Plan ZnsMath

theorem run_copy_whole {P : Program} (w : World) (dT sT ty elem : TypeId) (k g n dCap : Nat) (a : Addr) (sCap : Nat) (cur : Array Value) (t : TypeId) (cs : List Value)
    (hu : P.underlying dT = some (.slice elem)) (hs : (P.info? elem).map (·.size) = some k)
    (hg : w.heap[g]? = some (.cells cur t (0, 0))) (hc : cs.length = n * k) (hz : cur.size = cs.length)
    (hsrc : ∀ j v, cs[j]? = some v → w.cell? (a.add j) = some v) (h1 : ∀ v ∈ cs, v.oneCell' = true) :
    (Builtin.copy_ #[dT, sT] ty #[.slice (some ⟨g, 0, none⟩) n dCap, .slice (some a) n sCap]).run P w = .ok (goInt n) (w.setRow g cs.toArray) := by
  have hl := run_loadCells_list (P := P) w a cs hsrc
  have hst := run_storeCells_at P g 0 t cs 0 cur w hg (by omega) h1
  have hst2 : (cur.toList.take 0 ++ cs ++ cur.toList.drop (0 + 0 + cs.length)).toArray = cs.toArray := by
    rw [List.drop_of_length_le (by simp; omega)]; simp
  have hst3 : (storeCells ⟨g, 0, none⟩ cs 0).run P w = .ok () (w.setRow g cs.toArray) := by rw [hst]; congr 2
  cases hq : P.info? elem with
  | none => simp [hq] at hs
  | some i =>
    have hi : i.size = k := by simpa [hq] using hs
    simp [Builtin.copy_, run_underlying hu, Builtin.lenOf, Builtin.firstCells, sizeOf, typeInfo, hq, hi, ← hc, hl, hst3]
theorem wpList_copy_whole {P : Program} {w : World} {ops : Array Oper} {rest : List Oper} {o : Oper} {a : Act} {Q : Exit → Act → World → Prop} (hgd : o.guard = none) (d s : Operand) (dT sT : TypeId)
    (ho : o.op = .call { callee := .builtin .copy, args := #[d, s], argTypes := #[dT, sT] }) (elem : TypeId) (k : Nat) (hu : P.underlying dT = some (.slice elem)) (hsz : (P.info? elem).map (·.size) = some k)
    (g n dCap : Nat) (ad : Addr) (sCap : Nat) (hd : a.eval d = .slice (some ⟨g, 0, none⟩) n dCap) (hs : a.eval s = .slice (some ad) n sCap)
    (cur : Array Value) (t : TypeId) (hg : w.heap[g]? = some (.cells cur t (0, 0))) (cs : List Value) (hc : cs.length = n * k) (hz : cur.size = cs.length)
    (hsrc : ∀ j v, cs[j]? = some v → w.cell? (ad.add j) = some v) (h1 : ∀ v ∈ cs, v.oneCell' = true)
    (h : ∀ w', w' = w.setRow g cs.toArray → wpList P ops Q rest (a.put o.dst (goInt n)) w') : wpList P ops Q (o :: rest) a w := by
  refine wpList_plain hgd fun K hK => ?_
  have hrun := run_copy_whole (P := P) w dT sT o.type elem k g n dCap ad sCap cur t cs hu hsz hg hc hz hsrc h1
  unfold Oper.wp
  simp [execOp, ho, resolve, invoke, builtin, hd, hs, hrun, Result.andThen]
  exact hK _ _ (h _ rfl)
theorem copy_op {P : Program} {w : World} {ops : Array Oper} {rest : List Oper} {a : Act} {Q : Exit → Act → World → Prop} (dst : Option Tmp) (d s : Operand) (dT sT : TypeId) {t' : TypeId} {pos : String} {after : Array Edge}
    (elem : TypeId) (k : Nat) (hu : P.underlying dT = some (.slice elem)) (hsz : (P.info? elem).map (·.size) = some k)
    (g n dCap : Nat) (ad : Addr) (sCap : Nat) (hd : a.eval d = .slice (some ⟨g, 0, none⟩) n dCap) (hs : a.eval s = .slice (some ad) n sCap)
    (cur : Array Value) (t : TypeId) (hg : w.heap[g]? = some (.cells cur t (0, 0))) (cs : List Value) (hc : cs.length = n * k) (hz : cur.size = cs.length)
    (hsrc : ∀ j v, cs[j]? = some v → w.cell? (ad.add j) = some v) (h1 : ∀ v ∈ cs, v.oneCell' = true)
    (h : ∀ w', w' = w.setRow g cs.toArray → wpList P ops Q rest (a.put dst (goInt n)) w') :
    wpList P ops Q (⟨dst, .call { callee := .builtin .copy, args := #[d, s], argTypes := #[dT, sT] }, t', pos, after, none⟩ :: rest) a w :=
  wpList_copy_whole rfl d s dT sT rfl elem k hu hsz g n dCap ad sCap hd hs cur t hg cs hc hz hsrc h1 h
/-- the row that was made, and the other blocks -/
theorem made_facts {w3 w1 : World} {H n : Nat} {o0 o1 o2 : Obj} {xs : List Value} (r0 : w3.heap[H]? = some o0) (r1 : w3.heap[H + 1]? = some o1) (r2 : w3.heap[H + 1 + 1]? = some o2) (hg : w3.grownBy w1 none)
    (ho : w1.ownsRow (H + 1 + 1 + 1) 28 3 (.slice (some ⟨H + 1 + 1 + 1, 0, none⟩) n n) n xs) :
    w1.heap[H]? = some o0 ∧ w1.heap[H + 1]? = some o1 ∧ w1.heap[H + 1 + 1]? = some o2 ∧ ∃ cur, w1.heap[H + 1 + 1 + 1]? = some (.cells cur 28 (0, 0)) ∧ cur.size = n * 3 ∧ n ≤ maxLen := by
  refine ⟨(hg.block H (lt_of_block r0) (by simp)).trans r0, (hg.block _ (lt_of_block r1) (by simp)).trans r1, (hg.block _ (lt_of_block r2) (by simp)).trans r2, ?_⟩
  rcases ho.2 with ⟨h, _⟩ | ⟨g, cap, cur, hv, hb, hg, h1, h2, h3, h4⟩
  · cases h
  · cases hv
    exact ⟨cur, hg, h3, h2⟩
/-- .. behind the copy -/
theorem copied_facts {w w1 w2 : World} {H n : Nat} {o0 o1 o2 : Obj} {cur : Array Value} {C : List Value} (r0 : w1.heap[H]? = some o0) (r1 : w1.heap[H + 1]? = some o1) (r2 : w1.heap[H + 1 + 1]? = some o2) (hg : w1.heap[H + 1 + 1 + 1]? = some (.cells cur 28 (0, 0))) (hn : n ≤ maxLen) (hC : C.length = n * 3)
    (hb : Below H w w1) (e : w2 = w1.setRow (H + 1 + 1 + 1) C.toArray) :
    w2.heap[H]? = some o0 ∧ w2.heap[H + 1]? = some o1 ∧ w2.heap[H + 1 + 1]? = some o2 ∧ w2.ownsRow (H + 1 + 1 + 1) 28 3 (.slice (some ⟨H + 1 + 1 + 1, 0, none⟩) n n) n C ∧ Below H w w2 := by
  subst e
  refine ⟨(setRow_other _ _ _ _ (by omega)).trans r0, (setRow_other _ _ _ _ (by omega)).trans r1, (setRow_other _ _ _ _ (by omega)).trans r2, ⟨hC, .inr ⟨_, n, C.toArray, rfl, Nat.le_refl _, setRow_heap _ _ _ _ _ _ hg, Nat.le_refl _, hn, by simpa using hC, ?_⟩⟩, below_setRow hb (by omega) _⟩
  rw [← hC]
  simp
theorem put_there {w : World} {B g n c k : Nat} {F : Nat → Prop} {C : List Value} {Z : List Zone} {W : World} (ho : w.ownsRow B 28 3 (.slice (some ⟨g, 0, none⟩) n c) n C) (hz : ZCells W F C Z) (hk : k < Z.length) : w.there g (k * 3) 3 := by
  obtain ⟨u0, u1, u2, p0, p1, p2⟩ := three_cells ho hz hk
  intro j hj
  have hf := owns_free5 ho (k * 3 + j)
  have : j = 0 ∨ j = 1 ∨ j = 2 := by omega
  rcases this with rfl | rfl | rfl
  · exact ⟨by rw [Nat.add_zero, p0]; rfl, hf⟩
  · exact ⟨by rw [p1]; rfl, hf⟩
  · exact ⟨by rw [p2]; rfl, hf⟩
theorem put_end {w w2 : World} {F : Nat → Prop} {len k : Nat} {C : List Value} {Z : List Zone} {st du : Int} {L : List ByteArray} {sa : Option Addr} {sl sc : Nat} {o0 o2 : Obj}
    (q0 : w2.heap[w.heap.size]? = some o0) (q2 : w2.heap[w.heap.size + 1 + 1]? = some o2)
    (ho : w2.ownsRow (w.heap.size + 1 + 1 + 1) 28 3 (.slice (some ⟨w.heap.size + 1 + 1 + 1, 0, none⟩) len len) len C) (hz : ZCells w F C Z) (hk : k < Z.length) (b2 : Below w.heap.size w w2)
    (hs : StrsIn w F sa sl sc L) (w9 : World) (e : w9 = w2.setCells (w.heap.size + 1 + 1 + 1) (k * 3) [.int .i64 st, .int .i64 du, .slice sa sl sc]) :
    w9.heap[w.heap.size]? = some o0 ∧ (∀ u, (w9.setCell ⟨w.heap.size, 3, none⟩ u).heap[w.heap.size + 1 + 1]? = some o2) ∧ ∀ u cs, ZonesIn ((w9.setCell ⟨w.heap.size, 3, none⟩ u).setRow (w.heap.size + 1 + 1) cs) (Plus F w.heap.size) (some ⟨w.heap.size + 1 + 1 + 1, 0, none⟩) len len (Z.set k ⟨st, du, L⟩) ∧ Below w.heap.size w ((w9.setCell ⟨w.heap.size, 3, none⟩ u).setRow (w.heap.size + 1 + 1) cs) := by
  generalize hg7 : w.heap.size + 1 + 1 + 1 = g7 at *
  have e : w9 = ((w2.setCell ⟨g7, k * 3, none⟩ (.int .i64 st)).setCell ⟨g7, k * 3 + 1, none⟩ (.int .i64 du)).setCell ⟨g7, k * 3 + 1 + 1, none⟩ (.slice sa sl sc) := e
  have o9 := owns_cell (owns_cell (owns_cell ho (k * 3) (.int .i64 st)) (k * 3 + 1) (.int .i64 du)) (k * 3 + 1 + 1) (.slice sa sl sc)
  have b9 := ((b2.setCell (show w.heap.size ≤ (⟨g7, k * 3, none⟩ : Addr).block by show w.heap.size ≤ g7; omega) (.int .i64 st)).setCell (show w.heap.size ≤ (⟨g7, k * 3 + 1, none⟩ : Addr).block by show w.heap.size ≤ g7; omega) (.int .i64 du)).setCell (show w.heap.size ≤ (⟨g7, k * 3 + 1 + 1, none⟩ : Addr).block by show w.heap.size ≤ g7; omega) (.slice sa sl sc)
  have hfar : ∀ j, j ≠ g7 → (((w2.setCell ⟨g7, k * 3, none⟩ (.int .i64 st)).setCell ⟨g7, k * 3 + 1, none⟩ (.int .i64 du)).setCell ⟨g7, k * 3 + 1 + 1, none⟩ (.slice sa sl sc)).heap[j]? = w2.heap[j]? := fun j hj =>
    (Below.heap_setCell _ _ _ j hj).trans ((Below.heap_setCell _ _ _ j hj).trans (Below.heap_setCell _ _ _ j hj))
  rw [← e] at o9 b9 hfar
  clear e
  refine ⟨(hfar _ (by omega)).trans q0, fun u => (Below.heap_setCell w9 ⟨w.heap.size, 3, none⟩ u (w.heap.size + 1 + 1) (show w.heap.size + 1 + 1 ≠ w.heap.size by omega)).trans ((hfar _ (by omega)).trans q2), fun u cs => ?_⟩
  have b10 := below_setRow (b9.setCell (show w.heap.size ≤ (⟨w.heap.size, 3, none⟩ : Addr).block from Nat.le_refl _) u) (show w.heap.size ≤ w.heap.size + 1 + 1 by omega) cs
  refine ⟨?_, b10⟩
  have o10 := owns_other (H := w.heap.size + 1 + 1) (cs := cs) (ownsRow_setCell_other o9 (a := ⟨w.heap.size, 3, none⟩) (fun e => by have := Option.some.inj (show some g7 = some w.heap.size from e); omega) u) (by omega)
  obtain ⟨-, a', cap', heq, h⟩ := owns_zones (F := Plus F w.heap.size) o10 (((hz.set k hk ⟨st, du, L⟩ hs).on (Agree.below b10)).mono (fun _ _ hb => .inl hb)) (fun b e => .inr (by have := Option.some.inj (show some g7 = some b from e); omega))
  cases heq
  exact h
end Go.Proofs.Ytlplomofgbmgaaa
