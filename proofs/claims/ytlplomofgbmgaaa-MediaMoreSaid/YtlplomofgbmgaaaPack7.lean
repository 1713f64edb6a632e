/- Texts that belong together, part 7. -/
import Derived.Test.YtlplomofgbmgaaaPack6
import Derived.Deep.AppendLies
import Derived.OneCell
import Derived.ArgAppend
import Derived.Deep.MidRow

/- The walk of the document's own test of a zone. -/
namespace Go.Proofs.Ytlplomofgbmgaaa
open Go.RowKit Plan ZnsMath

theorem zero_beq (k : Nat) : ((k : Int) == 0) = (k == 0) := by rw [Bool.eq_iff_iff]; simp
theorem zone_info : (Try.prog.info? 28).map (·.size) = some 3 := by kernel_rfl
theorem dev_info : (Try.prog.info? 24).map (·.size) = some 4 := by kernel_rfl
def boundsB (z : Zone) (size : Int) : Bool := decide (¬(z.state < 0 ∨ 5 < z.state ∨ size < z.sectors.length ∨ z.durable < 0 ∨ (z.sectors.length : Int) < z.durable))
def shapeB (z : Zone) (size : Int) : Bool := if z.state = 0 ∨ z.state = 5 then z.sectors.length == 0 else if z.state = 4 then z.durable == z.sectors.length else decide ((z.sectors.length : Int) < size)
theorem right_eq (z : Zone) (size : Int) : rightB z size = (boundsB z size && sizesB z.sectors && shapeB z size) := rfl
set_option maxHeartbeats 1000000 in
theorem refRight_bad (z : Zone) (size : Int) (a : Option Addr) (len cap : Nat) (w : World) (hl : z.sectors.length = len) (hb : boundsB z size = false) :
    Calls Try.prog 32 #[zoneV z a len cap, .int .i64 size] w fun e w' => e = .returned (.bool false) ∧ Below w.heap.size w w' := by
  have h : z.state < 0 ∨ (¬ z.state < 0 ∧ 5 < z.state) ∨ (¬ z.state < 0 ∧ ¬ 5 < z.state ∧ size < (len : Int)) ∨ (¬ z.state < 0 ∧ ¬ 5 < z.state ∧ ¬ size < (len : Int) ∧ z.durable < 0) ∨ (¬ z.state < 0 ∧ ¬ 5 < z.state ∧ ¬ size < (len : Int) ∧ ¬ z.durable < 0 ∧ (len : Int) < z.durable) := by
    unfold boundsB at hb
    rw [hl] at hb
    simp only [decide_eq_false_iff_not] at hb
    omega
  clear hb hl
  obtain ⟨st, du, L⟩ := z
  change Calls Try.prog 32 #[.agg #[.int .i64 st, .int .i64 du, .slice a len cap], .int .i64 size] w _
  simp only at h
  rcases h with h | ⟨h1, h⟩ | ⟨h1, h2, h⟩ | ⟨h1, h2, h3, h⟩ | ⟨h1, h2, h3, h4, h⟩
  all_goals
    go_enter Try.func32, Try.ntmps32
    go_wp2
    go_ret
    exact ⟨rfl, (Below.refl _ _).alloc (Nat.le_refl _) _⟩
theorem sizesB_snoc (L : List ByteArray) (s : ByteArray) : sizesB (L ++ [s]) = (sizesB L && (s.size == 40)) := by simp [sizesB]
theorem sizesB_more (L T : List ByteArray) (h : sizesB L = false) : sizesB (L ++ T) = false := by
  unfold sizesB at h ⊢
  rw [List.all_append, h, Bool.false_and]
set_option maxHeartbeats 1000000 in
set_option maxRecDepth 20000 in
theorem refRight_good (z : Zone) (size : Int) (a : Option Addr) (len cap : Nat) (w : World) (hs : IsStrs w a len cap z.sectors) (hm : len ≤ 9223372036854775807) (hb : boundsB z size = true) :
    Calls Try.prog 32 #[zoneV z a len cap, .int .i64 size] w fun e w' => e = .returned (.bool (sizesB z.sectors && shapeB z size)) ∧ Below w.heap.size w w' := by
  have hl := hs.length
  have h : ¬ z.state < 0 ∧ ¬ 5 < z.state ∧ ¬ size < (len : Int) ∧ ¬ z.durable < 0 ∧ ¬ (len : Int) < z.durable := by
    unfold boundsB at hb
    rw [hl] at hb
    simp only [decide_eq_true_eq] at hb
    omega
  obtain ⟨h1, h2, h3, h4, h5⟩ := h
  clear hb
  have hsh : shapeB z size = if z.state = 0 ∨ z.state = 5 then len == 0 else if z.state = 4 then z.durable == len else decide ((len : Int) < size) := by unfold shapeB; rw [hl]
  generalize shapeB z size = SH at hsh
  obtain ⟨st, du, L⟩ := z
  change Calls Try.prog 32 #[.agg #[.int .i64 st, .int .i64 du, .slice a len cap], .int .i64 size] w fun e w' => e = .returned (.bool (sizesB L && SH)) ∧ Below w.heap.size w w'
  simp only at hl h1 h2 h3 h4 h5 hsh hs
  have hw := hs.on ((Below.refl w.heap.size w).alloc (Nat.le_refl _) (.cells #[.int .i64 st, .int .i64 du, .slice a len cap] 28)) (Nat.le_refl _)
  have hx : ∀ i : Nat, i < len → ∃ x s, a = some x ∧ L[i]? = some s ∧ (w.alloc (.cells #[.int .i64 st, .int .i64 du, .slice a len cap] 28)).cell? (x.add i) = some (.string s) := fun i hi => by
    obtain ⟨x, k1, k2⟩ := hw.some (by omega)
    exact ⟨x, L[i]'(by omega), k1, List.getElem?_eq_getElem _, (k2 i _ (List.getElem?_eq_getElem _)).1⟩
  have HX := Lib.hid hx
  have HL := Lib.hid hl
  have HS := Lib.hid hsh
  clear hl hsh hs hw hx
  go_enter Try.func32, Try.ntmps32
  go_wp2_with fail
  go_loop [6] (fun c => ∃ k : Nat, c = .int .i64 k ∧ k ≤ len ∧ sizesB (L.take k) = true) (fun c => len - (intOf c).toNat)
  case atStart => exact ⟨0, rfl, by omega, rfl⟩
  case round =>
    obtain ⟨k, rfl, hk, hsz⟩ := hrel
    by_cases hlt : k < len
    · obtain ⟨x, s, rfl, hsk, hc⟩ := HX.out k hlt
      have hkI : (k : Int) < (len : Int) := by omega
      have hnext : L.take (k + 1) = L.take k ++ [s] := by rw [List.take_add_one, hsk]; rfl
      have hsn := sizesB_snoc (L.take k) s
      rw [← hnext, hsz, Bool.true_and] at hsn
      by_cases h40 : s.size = 40
      · have h40I : ((s.size : Int) != 40) = false := by simp; omega
        rw [h40] at hsn
        go_wp2_with fail
        go_round
        case rel => exact ⟨k + 1, by go_num, by omega, hsn⟩
        case measure => simp [intOf]; omega
      · have h40I : ((s.size : Int) != 40) = true := by simp; omega
        have hbad : sizesB L = false := by
          rw [← List.take_append_drop (k + 1) L]
          exact sizesB_more _ _ (by rw [hsn]; simp [h40])
        go_wp2_with fail
        go_ret
        exact ⟨rfl, (Below.refl _ _).alloc (Nat.le_refl _) _⟩
    · obtain rfl : k = len := by omega
      have hfull : L.take k = L := List.take_of_length_le (by rw [HL.out]; exact Nat.le_refl _)
      rw [hfull] at hsz
      go_wp2_with fail
      all_goals
        go_ret
        refine ⟨?_, (Below.refl _ _).alloc (Nat.le_refl _) _⟩
        refine ret_bool ?_
        rw [HS.out]
        first | (simp_all; done) | (simp_all; exact zero_beq _)
theorem refRight_any (z : Zone) (size : Int) (a : Option Addr) (len cap : Nat) (w : World) (hs : IsStrs w a len cap z.sectors) (hm : len ≤ 9223372036854775807) :
    Calls Try.prog 32 #[zoneV z a len cap, .int .i64 size] w fun e w' => e = .returned (.bool (rightB z size)) ∧ Below w.heap.size w w' := by
  rw [right_eq]
  cases hb : boundsB z size with
  | false => exact refRight_bad z size a len cap w hs.length hb
  | true =>
    rw [Bool.true_and]
    exact refRight_good z size a len cap w hs hm hb
end Go.Proofs.Ytlplomofgbmgaaa

/- The walk of the document's own Check of a device. -/
namespace Go.Proofs.Ytlplomofgbmgaaa
open Go.RowKit Plan ZnsMath

theorem add_off (x : Addr) (m n : Nat) : x.add (m + (n + 1)) = ⟨(x.add m).block, (x.add m).off + (n + 1), none⟩ := by rw [← Addr.add_add, Addr.add_succ']
/-- a zone in memory, a device in memory: the cells -/
abbrev ZoneAt (w : World) (x : Addr) (k : Nat) (z : Zone) (sa : Option Addr) (sl sc : Nat) : Prop :=
  w.cell? (x.add (k * 3)) = some (.int .i64 z.state) ∧ w.cell? ⟨(x.add (k * 3)).block, (x.add (k * 3)).off + 1, none⟩ = some (.int .i64 z.durable) ∧ w.cell? ⟨(x.add (k * 3)).block, (x.add (k * 3)).off + 2, none⟩ = some (.slice sa sl sc)
abbrev DevAt (w : World) (g : Nat) (size op act : Int) (a : Option Addr) (len cap : Nat) : Prop :=
  w.cell? ⟨g, 0, none⟩ = some (.int .i64 size) ∧ w.cell? ⟨g, 1, none⟩ = some (.int .i64 op) ∧ w.cell? ⟨g, 2, none⟩ = some (.int .i64 act) ∧ w.cell? ⟨g, 3, none⟩ = some (.slice a len cap)
theorem row4 {w : World} {g : Nat} {a b c d : Value} {t : TypeId} {fr : Nat × Nat} (h : w.heap[g]? = some (.cells #[a, b, c, d] t fr)) :
    g < w.heap.size ∧ w.cell? ⟨g, 0, none⟩ = some a ∧ w.cell? ⟨g, 1, none⟩ = some b ∧ w.cell? ⟨g, 2, none⟩ = some c ∧ w.cell? ⟨g, 3, none⟩ = some d :=
  ⟨(Array.getElem?_eq_some_iff.1 h).1, cell_of_row _ _ 0 _ _ _ h, cell_of_row _ _ 1 _ _ _ h, cell_of_row _ _ 2 _ _ _ h, cell_of_row _ _ 3 _ _ _ h⟩
theorem ZoneAt.on {w w' : World} {x : Addr} {k : Nat} {z : Zone} {sa : Option Addr} {sl sc : Nat} (h : ZoneAt w x k z sa sl sc) (hb : Below w.heap.size w w') (hx : x.block < w.heap.size) : ZoneAt w' x k z sa sl sc := by
  have hc : ∀ n, w'.cell? ⟨(x.add (k * 3)).block, n, none⟩ = w.cell? ⟨(x.add (k * 3)).block, n, none⟩ := fun n => hb.cell (show (x.add (k * 3)).block < w.heap.size by rw [add_block]; exact hx)
  exact ⟨by rw [hb.cell (by rw [add_block]; exact hx)]; exact h.1, by rw [hc]; exact h.2.1, by rw [hc]; exact h.2.2⟩
theorem zone_block {w : World} {x : Addr} {k : Nat} {z : Zone} {sa : Option Addr} {sl sc : Nat} (h : ZoneAt w x k z sa sl sc) : x.block < w.heap.size := by
  have := block_lt_of_cell h.1
  rwa [add_block] at this
theorem IsZones.zone {w : World} {a : Option Addr} {len cap : Nat} {Z : List Zone} (h : IsZones w a len cap Z) (i : Nat) (hi : i < len) : ∃ x z sa sl sc, a = some x ∧ Z[i]? = some z ∧ ZoneAt w x i z sa sl sc ∧ IsStrs w sa sl sc z.sectors := by
  obtain ⟨x, z, h1, h2, h3, h4, sa, sl, sc, h5, h6⟩ := h.at i hi
  exact ⟨x, z, sa, sl, sc, h1, h2, ⟨h3, by rw [← add_off x (i * 3) 0]; exact h4, by rw [← add_off x (i * 3) 1]; exact h5⟩, h6⟩
theorem IsStrs.len_le {w : World} {a : Option Addr} {len cap : Nat} {L : List ByteArray} (h : IsStrs w a len cap L) : len ≤ 9223372036854775807 := by
  rcases h with ⟨_, rfl, _⟩ | ⟨x, _, h1, h2, _⟩
  · omega
  · unfold maxLen at h2; omega
theorem IsZones.len_le {w : World} {a : Option Addr} {len cap : Nat} {Z : List Zone} (h : IsZones w a len cap Z) : len ≤ 9223372036854775807 := by
  rcases h with ⟨_, rfl, _⟩ | ⟨x, _, h1, h2, _⟩
  · omega
  · unfold maxLen at h2; omega
theorem rightsB_snoc (Z : List Zone) (z : Zone) (size : Int) : rightsB (Z ++ [z]) size = (rightsB Z size && rightB z size) := by simp [rightsB]
theorem rightsB_more (Z T : List Zone) (size : Int) (h : rightsB Z size = false) : rightsB (Z ++ T) size = false := by
  unfold rightsB at h ⊢
  rw [List.all_append, h, Bool.false_and]
set_option maxHeartbeats 1000000 in
theorem refCheck05_config (D : Dev) (a : Option Addr) (len cap : Nat) (w : World) (hl : D.zones.length = len) (hb : configB D = false) :
    Calls Try.prog 14 #[devV D a len cap] w fun e w' => e = .returned (.int .i64 11) ∧ Below w.heap.size w w' := by
  obtain ⟨size, op, act, Z⟩ := D
  change Calls Try.prog 14 #[.agg #[.int .i64 size, .int .i64 op, .int .i64 act, .slice a len cap]] w _
  have h : (len : Int) < 1 ∨ (¬ (len : Int) < 1 ∧ 32 < (len : Int)) ∨ (¬ (len : Int) < 1 ∧ ¬ 32 < (len : Int) ∧ size < 3) ∨ (¬ (len : Int) < 1 ∧ ¬ 32 < (len : Int) ∧ ¬ size < 3 ∧ 64 < size)
      ∨ (¬ (len : Int) < 1 ∧ ¬ 32 < (len : Int) ∧ ¬ size < 3 ∧ ¬ 64 < size ∧ act < 1) ∨ (¬ (len : Int) < 1 ∧ ¬ 32 < (len : Int) ∧ ¬ size < 3 ∧ ¬ 64 < size ∧ ¬ act < 1 ∧ (len : Int) < act)
      ∨ (¬ (len : Int) < 1 ∧ ¬ 32 < (len : Int) ∧ ¬ size < 3 ∧ ¬ 64 < size ∧ ¬ act < 1 ∧ ¬ (len : Int) < act ∧ op < 1) ∨ (¬ (len : Int) < 1 ∧ ¬ 32 < (len : Int) ∧ ¬ size < 3 ∧ ¬ 64 < size ∧ ¬ act < 1 ∧ ¬ (len : Int) < act ∧ ¬ op < 1 ∧ act < op) := by
    unfold configB at hb
    simp only at hl
    simp only [hl, decide_eq_false_iff_not] at hb
    omega
  clear hb hl
  rcases h with h | ⟨h1, h⟩ | ⟨h1, h2, h⟩ | ⟨h1, h2, h3, h⟩ | ⟨h1, h2, h3, h4, h⟩ | ⟨h1, h2, h3, h4, h5, h⟩ | ⟨h1, h2, h3, h4, h5, h6, h⟩ | ⟨h1, h2, h3, h4, h5, h6, h7, h⟩
  all_goals
    go_enter Try.func14, Try.ntmps14
    go_wp2
    go_ret
    exact ⟨rfl, (Below.refl _ _).alloc (Nat.le_refl _) _⟩
set_option maxHeartbeats 1000000 in
set_option maxRecDepth 20000 in
theorem refCheck05_zones (D : Dev) (a : Option Addr) (len cap : Nat) (w : World) (hz : IsZones w a len cap D.zones) (hb : configB D = true) :
    Calls Try.prog 14 #[devV D a len cap] w fun e w' => e = .returned (.int .i64 (if rightsB D.zones D.size = false then 6 else if D.maxOpen < countO D.zones ∨ D.maxActive < countA D.zones then 6 else 0)) ∧ Below w.heap.size w w' := by
  have hl := hz.length
  have hcn : ∀ W, Below w.heap.size w W → Calls Try.prog 33 #[devV D a len cap] W fun e w' => e = .returned (.tuple #[.int .i64 (countO D.zones : Nat), .int .i64 (countA D.zones : Nat)]) ∧ Below W.heap.size W w' := fun W h => refCounts_any D a len cap W (hz.on h (Nat.le_refl _)) hz.len_le
  obtain ⟨size, op, act, Z⟩ := D
  change Calls Try.prog 14 #[.agg #[.int .i64 size, .int .i64 op, .int .i64 act, .slice a len cap]] w fun e w' => e = .returned (.int .i64 (if rightsB Z size = false then 6 else if op < countO Z ∨ act < countA Z then 6 else 0)) ∧ Below w.heap.size w w'
  try simp only at hz
  try simp only at hl
  try simp only at hcn
  obtain ⟨h1, h2, h3, h4, h5, h6, h7, h8⟩ : ¬ (len : Int) < 1 ∧ ¬ 32 < (len : Int) ∧ ¬ size < 3 ∧ ¬ 64 < size ∧ ¬ act < 1 ∧ ¬ (len : Int) < act ∧ ¬ op < 1 ∧ ¬ act < op := by
    unfold configB at hb
    simp only [decide_eq_true_eq] at hb
    rw [hl] at hb
    omega
  clear hb
  have hR := fun W (h : Below w.heap.size w W) i (hi : i < len) => (hz.on h (Nat.le_refl _)).zone i hi
  have HR := Lib.hid hR
  have HC := Lib.hid hcn
  have HL := Lib.hid hl
  generalize hRR : (if rightsB Z size = false then (6 : Int) else if op < countO Z ∨ act < countA Z then 6 else 0) = RR
  have HRR := Lib.hid hRR
  clear hR hcn hl hz hRR
  go_enter Try.func14, Try.ntmps14
  go_wp2_with fail
  go_loopw [3] (fun c wr => ∃ k : Nat, c = .int .i64 k ∧ k ≤ len ∧ rightsB (Z.take k) size = true ∧ wr.heap[w.heap.size]? = some (.cells #[.int .i64 size, .int .i64 op, .int .i64 act, .slice a len cap] 24 (0, 0)) ∧ Below w.heap.size w wr) (fun c _ => len - (intOf c).toNat)
  case atStart => exact ⟨0, rfl, by omega, rfl, heap_alloc_new _ _, (Below.refl _ _).alloc (Nat.le_refl _) _⟩
  case round =>
    obtain ⟨k, rfl, hk, hrt, hbox, hbl⟩ := hrel
    obtain ⟨y, d0, d1, d2, d3⟩ := row4 hbox
    by_cases hlt : k < len
    · obtain ⟨x, z, sa, sl, sc, rfl, hzk, hza, hzs⟩ := HR.out wr hbl k hlt
      have hkI : (k : Int) < (len : Int) := by omega
      have hnext : Z.take (k + 1) = Z.take k ++ [z] := by rw [List.take_add_one, hzk]; rfl
      have hsn := rightsB_snoc (Z.take k) z size
      rw [← hnext, hrt, Bool.true_and] at hsn
      have hRt := fun W (h : Below wr.heap.size wr W) => refRight_any z size sa sl sc W (hzs.on h (Nat.le_refl _)) hzs.len_le
      have HRt := Lib.hid hRt
      have hxb := zone_block hza
      clear hRt
      go_wp2_with fail
      refine Plan.start (fun W => DevAt W w.heap.size size op act (some x) len cap ∧ ZoneAt W x k z sa sl sc ∧ Below wr.heap.size wr W) [(0, true), (1, true), (2, true), (3, true), (4, true), (5, true), (6, true), (7, false), (8, true)] (by kernel_rfl) (by kernel_rfl) (by kernel_rfl) (by kernel_rfl) ⟨⟨d0, d1, d2, d3⟩, hza, (Below.refl _ _).drew⟩ ?_
      simp only [List.map_cons, List.map_nil, List.getElem?_toArray, List.getElem?_cons_zero, List.getElem?_cons_succ]
      repeat (first | (refine Plan.take ?_ (by rfl) ?_ ?_; rotate_left; (· rintro w9 ⟨⟨e0, e1, e2, e3⟩, ⟨z0, z1, z2⟩, -⟩; go_simp; (try rw [if_neg (by omega)]); all_goals (with_reducible rfl)); simp only [Act.put, List.setIfInBounds_toArray, List.set_cons_zero, List.set_cons_succ]) | (refine Plan.pass (by rfl) ?_; simp only [Act.put, List.setIfInBounds_toArray, List.set_cons_zero, List.set_cons_succ]))
      refine Plan.call (by rfl) 32 _ ?_ (HRt.out _ (Below.refl _ _).drew) ?_
      · go_simp
      rintro e w4 ⟨rfl, hb4⟩
      have hb4' := (Below.refl wr.heap.size wr).drew.trans hb4
      have hbox4 := row_on hb4' hbox y
      have hS4 : DevAt w4 w.heap.size size op act (some x) len cap ∧ ZoneAt w4 x k z sa sl sc ∧ Below wr.heap.size wr w4 := ⟨(row4 hbox4).2, hza.on hb4' hxb, hb4'⟩
      refine ⟨_, rfl, hS4, ?_⟩
      simp only [Act.put, List.setIfInBounds_toArray, List.set_cons_zero, List.set_cons_succ]
      repeat (first | (refine Plan.take ?_ (by rfl) ?_ ?_; rotate_left; (· rintro w9 ⟨⟨e0, e1, e2, e3⟩, ⟨z0, z1, z2⟩, -⟩; go_simp; (try rw [if_neg (by omega)]); all_goals (with_reducible rfl)); simp only [Act.put, List.setIfInBounds_toArray, List.set_cons_zero, List.set_cons_succ]) | (refine Plan.pass (by rfl) ?_; simp only [Act.put, List.setIfInBounds_toArray, List.set_cons_zero, List.set_cons_succ]))
      refine Plan.ends ?_
      have hbl4 := hbl.trans (hb4'.mono hbl.size)
      cases hrz : rightB z size with
      | true =>
        rw [hrz] at hsn
        go_wp2_with fail
        go_roundw
        case rel => exact ⟨k + 1, by go_num, by omega, hsn, hbox4, hbl4⟩
        case measure => simp [intOf]; omega
      | false =>
        rw [hrz] at hsn
        have hbad : rightsB Z size = false := by
          rw [← List.take_append_drop (k + 1) Z]
          exact rightsB_more _ _ _ hsn
        go_wp2_with fail
        go_ret
        refine ⟨ret_i64 ?_, hbl4⟩
        rw [← HRR.out, if_pos hbad]
    · obtain rfl : k = len := by omega
      have hfull : Z.take k = Z := List.take_of_length_le (by rw [HL.out]; exact Nat.le_refl _)
      rw [hfull] at hrt
      go_wp2_with (go_at_call 33; ((with_reducible refine (HC.out _ hbl).mono ?_); rintro e w4 ⟨rfl, hb4⟩; have hbox4 := row_on hb4 hbox y; obtain ⟨y4, d0, d1, d2, d3⟩ := row4 hbox4))
      all_goals
        go_ret
        refine ⟨ret_i64 ?_, hbl.trans (hb4.mono hbl.size)⟩
        rw [← HRR.out, if_neg (by rw [hrt]; decide)]
        first | rw [if_pos (by omega)] | rw [if_neg (by omega)]
theorem refCheck05_any (D : Dev) (a : Option Addr) (len cap : Nat) (w : World) (hz : IsZones w a len cap D.zones) :
    Calls Try.prog 14 #[devV D a len cap] w fun e w' => e = .returned (.int .i64 (checkE D)) ∧ Below w.heap.size w w' := by
  unfold checkE
  by_cases hb : configB D = false
  · rw [if_pos hb]
    exact refCheck05_config D a len cap w hz.length hb
  · rw [if_neg hb]
    exact refCheck05_zones D a len cap w hz (by simpa using hb)
end Go.Proofs.Ytlplomofgbmgaaa

/- Lists of strings that the call owns, beside dice. -/
namespace Go.Proofs.Ytlplomofgbmgaaa
open Go.RowKit Plan

/-- strings as cells -/
def strs (L : List ByteArray) : List Value := L.map Value.string
theorem strs_length (L : List ByteArray) : (strs L).length = L.length := by simp [strs]
theorem strs_cells (L : List ByteArray) : ∀ u ∈ strs L, u.oneCell' = true := by
  intro u hu
  obtain ⟨n, _, rfl⟩ := List.mem_map.1 hu
  rfl
theorem strs_app (L M : List ByteArray) : strs (L ++ M) = strs L ++ strs M := by simp [strs]
theorem strs_get {L : List ByteArray} {j : Nat} {s : ByteArray} (h : L[j]? = some s) : (strs L)[j]? = some (.string s) := by simp [strs, h]
theorem str_info : (Try.prog.info? 9).map (fun i => (i.zero, i.size, i.bytes)) = some (some (.string ByteArray.empty), 1, 16) := by kernel_rfl
theorem below_none {w w' : World} (hb : Below w.heap.size w w') : w.grownBy w' none := ⟨hb.os, hb.tape, hb.output, hb.size, fun k hk _ => hb.block k hk⟩
theorem owns_on {w w' : World} {B : Nat} {t : TypeId} {v : Value} {n : Nat} {xs : List Value} (h : w.ownsRow B t 1 v n xs) (hb : Below w.heap.size w w') : w'.ownsRow B t 1 v n xs :=
  h.kept (below_none hb) (by cases hv : v.ownBlock <;> simp)
/-- a list that the call owns is one that is read -/
theorem owns_strs {w : World} {B : Nat} {v : Value} {n : Nat} {L : List ByteArray} (h : w.ownsRow B 9 1 v n (strs L)) (hs : ∀ s ∈ L, s.size ≤ maxLen) : L.length = n ∧ ∃ a cap, v = .slice a n cap ∧ IsStrs w a n cap L := by
  have hl : L.length = n := by have := h.1; rw [strs_length] at this; omega
  refine ⟨hl, ?_⟩
  rcases h.2 with ⟨rfl, rfl⟩ | ⟨g, cap, cur, rfl, hb, hg, h1, h2, h3, h4⟩
  · obtain rfl : L = [] := List.length_eq_zero_iff.1 hl
    exact ⟨none, 0, rfl, .inl ⟨rfl, rfl, rfl, rfl⟩⟩
  · exact ⟨_, _, rfl, .inr ⟨_, rfl, h1, h2, hl, fun i s hi => ⟨h.cells rfl i _ (strs_get hi), hs s (List.mem_of_getElem? hi)⟩⟩⟩
theorem IsStrs.take {w : World} {a : Option Addr} {n cap : Nat} {L : List ByteArray} (h : IsStrs w a n cap L) (k : Nat) (hk : k ≤ n) : IsStrs w a k cap (L.take k) := by
  rcases h with ⟨rfl, rfl, rfl, rfl⟩ | ⟨x, rfl, h2, h3, h4, h5⟩
  · obtain rfl : k = 0 := by omega
    exact .inl ⟨rfl, rfl, rfl, rfl⟩
  · refine .inr ⟨x, rfl, by omega, h3, by rw [List.length_take]; omega, fun i s hi => h5 i s ?_⟩
    rw [List.getElem?_take] at hi
    split at hi
    · exact hi
    · cases hi
theorem strs_news {W : World} {x : Addr} {n cap : Nat} {L : List ByteArray} (h : IsStrs W (some x) n cap L) : ∀ j u, (strs L)[j]? = some u → W.cell? (x.add j) = some u := by
  intro j u hu
  rcases h with ⟨h, _⟩ | ⟨x', hx, _, _, _, h5⟩
  · cases h
  · obtain rfl := Option.some.inj hx
    simp only [strs, List.getElem?_map] at hu
    obtain ⟨s, hs, rfl⟩ := Option.map_eq_some_iff.1 hu
    exact (h5 j s hs).1
theorem owns_set {w : World} {B g n cap : Nat} {L : List ByteArray} (h : w.ownsRow B 9 1 (.slice (some ⟨g, 0, none⟩) n cap) n (strs L)) (q : Nat) (F : ByteArray) :
    (w.setCell ⟨g, q, none⟩ (.string F)).ownsRow B 9 1 (.slice (some ⟨g, 0, none⟩) n cap) n (strs (L.set q F)) := by
  obtain ⟨h1, h2⟩ := h
  rcases h2 with ⟨h, _⟩ | ⟨g', cap', cur, hv, hb, hg, k1, k2, k3, k4⟩
  · cases h
  · cases hv
    refine ⟨by rw [strs_length, List.length_set, ← strs_length]; exact h1, .inr ⟨g, cap, cur.setIfInBounds q (.string F), rfl, hb, setCell_row hg q _, k1, k2, by simpa using k3, ?_⟩⟩
    rw [Array.toList_setIfInBounds, List.take_set, k4, strs, strs, List.map_set]
theorem own_free {w : World} {B g n cap : Nat} {t : TypeId} {xs : List Value} (h : w.ownsRow B t 1 (.slice (some ⟨g, 0, none⟩) n cap) n xs) (q : Nat) : w.frozen? ⟨g, q, none⟩ = false := by
  rcases h.2 with ⟨h, _⟩ | ⟨g', cap', cur, hv, hb, hg, _⟩
  · cases h
  · cases hv
    exact row_free hg q
theorem own_copy {w : World} {B g n cap : Nat} {t : TypeId} {xs : List Value} (h : w.ownsRow B t 1 (.slice (some ⟨g, 0, none⟩) (0 + n) cap) (0 + n) ([] ++ xs)) : w.ownsRow B t 1 (.slice (some ⟨g, 0, none⟩) n cap) n xs := by
  rw [Nat.zero_add, List.nil_append] at h
  exact h
theorem own_cell {w : World} {B g n cap : Nat} {L : List ByteArray} (h : w.ownsRow B 9 1 (.slice (some ⟨g, 0, none⟩) n cap) n (strs L)) {q : Nat} {s : ByteArray} (hs : (strs L)[q]? = some (.string s)) : w.cell? ⟨g, q, none⟩ = some (.string s) := by
  have := h.cells (g := g) rfl q _ hs
  rwa [Addr.add_lit, Nat.zero_add] at this
/-- what the call owns: dice, and a list of strings above them -/
structure Stk (w : World) (base g : Nat) (zs : List Int) (k : Nat) (v : Value) (L : List ByteArray) : Prop where
  dice : Dice w base g zs k
  own : w.ownsRow (g + 1) 9 1 v L.length (strs L)
theorem Stk.nil {w : World} {base g : Nat} {zs : List Int} {k : Nat} (h : Dice w base g zs k) : Stk w base g zs k (.slice none 0 0) [] := ⟨h, World.ownsRow_nil w _ _ _⟩
theorem own_ne {w : World} {B g : Nat} {t : TypeId} {v : Value} {n : Nat} {xs : List Value} (h : w.ownsRow B t 1 v n xs) (hg : g < B) : v.ownBlock = none ∨ v.ownBlock ≠ some g := by
  refine .inr fun e => ?_
  have := (h.lt g e).1
  omega
theorem Stk.made {w w' : World} {base g : Nat} {zs : List Int} {k k' : Nat} {v : Value} {L : List ByteArray} (h : Stk w base g zs k v L) (hd : Dice w' base g zs k') (hg : w.grownBy w' (some g)) : Stk w' base g zs k' v L :=
  ⟨hd, h.own.kept hg (own_ne h.own (Nat.lt_succ_self g))⟩
theorem Stk.on {w w' : World} {base g : Nat} {zs : List Int} {k : Nat} {v : Value} {L : List ByteArray} (h : Stk w base g zs k v L) (hb : Below w.heap.size w w') : Stk w' base g zs k v L :=
  ⟨dice_on h.dice hb (Nat.le_refl _), owns_on h.own hb⟩
theorem Stk.al {w : World} {base g : Nat} {zs : List Int} {k : Nat} {v : Value} {L : List ByteArray} (h : Stk w base g zs k v L) (o : Obj) : Stk (w.alloc o) base g zs k v L :=
  h.on ((Below.refl _ _).alloc (Nat.le_refl _) _)
theorem dice_grow {w w' : World} {base g B : Nat} {t : TypeId} {zs : List Int} {k : Nat} {v : Value} {n : Nat} {xs : List Value} (h : Dice w base g zs k) (ho : w.ownsRow B t 1 v n xs) (hB : g < B) (hg : w.grownBy w' v.ownBlock) : Dice w' base g zs k := by
  cases hv : v.ownBlock with
  | none =>
    rw [hv] at hg
    exact dice_on h ⟨hg.os, hg.tape, hg.output, hg.size, fun i hi => hg.block i hi (by simp)⟩ (Nat.le_refl _)
  | some b =>
    rw [hv] at hg
    exact dice_far h hg (by have := (ho.lt b hv).1; omega)
theorem Stk.app {w w' : World} {base g : Nat} {zs : List Int} {k : Nat} {v v' : Value} {L : List ByteArray} {s : ByteArray} (h : Stk w base g zs k v L) (ho : w'.ownsRow (g + 1) 9 1 v' (L.length + 1) (strs L ++ [.string s])) (hg : w.grownBy w' v.ownBlock) : Stk w' base g zs k v' (L ++ [s]) :=
  ⟨dice_grow h.dice h.own (Nat.lt_succ_self g) hg, by rw [strs_app, List.length_append]; exact ho⟩
/-- what lies below stays, however the list grows -/
theorem below_grow {B : Nat} {w0 w w' : World} {C : Nat} {t : TypeId} {v : Value} {n : Nat} {xs : List Value} (hb : Below B w0 w) (ho : w.ownsRow C t 1 v n xs) (hC : B ≤ C) (hB : B ≤ w.heap.size) (hg : w.grownBy w' v.ownBlock) : Below B w0 w' :=
  hb.grown hg hB (fun k hk => by have := (ho.lt k hk).1; omega)
end Go.Proofs.Ytlplomofgbmgaaa

/- Devices whose lists lie in blocks of a set: what is written elsewhere leaves them as they are. -/
namespace Go.Proofs.Ytlplomofgbmgaaa
open Go.RowKit Plan ZnsMath

/-- two worlds that agree on the blocks of a set -/
def Agree (F : Nat → Prop) (w w' : World) : Prop := w.heap.size ≤ w'.heap.size ∧ ∀ b, F b → b < w.heap.size → w'.heap[b]? = w.heap[b]?
theorem Agree.cell {F : Nat → Prop} {w w' : World} (h : Agree F w w') {x : Addr} {v : Value} (hx : F x.block) (hc : w.cell? x = some v) : w'.cell? x = some v := by
  rw [World.cell?_of_block (h.2 x.block hx (block_lt_of_cell hc)), hc]
theorem Agree.below {F : Nat → Prop} {w w' : World} (hb : Below w.heap.size w w') : Agree F w w' := ⟨hb.size, fun b _ hlt => hb.block b hlt⟩
theorem Agree.row {F : Nat → Prop} {w : World} {r : Nat} (hr : ¬ F r) (cs : Array Value) : Agree F w (w.setRow r cs) :=
  ⟨Nat.le_of_eq (by simp [World.setRow]), fun b hb _ => setRow_other _ _ _ _ (fun e => hr (e ▸ hb))⟩
theorem Agree.setCell {F : Nat → Prop} {w : World} {p : Addr} (hr : ¬ F p.block) (u : Value) : Agree F w (w.setCell p u) :=
  ⟨Nat.le_of_eq (by simp [World.setCell]), fun b hb _ => Below.heap_setCell _ _ _ _ (fun e => hr (e ▸ hb))⟩
/-- a list of strings in the blocks of a set -/
def StrsIn (w : World) (F : Nat → Prop) (a : Option Addr) (len cap : Nat) (L : List ByteArray) : Prop := IsStrs w a len cap L ∧ (0 < len → ∀ x, a = some x → F x.block)
theorem StrsIn.on {F : Nat → Prop} {w w' : World} {a : Option Addr} {len cap : Nat} {L : List ByteArray} (h : StrsIn w F a len cap L) (hw : Agree F w w') : StrsIn w' F a len cap L := by
  refine ⟨?_, h.2⟩
  rcases h.1 with h1 | ⟨x, h1, h2, h3, h4, h5⟩
  · exact .inl h1
  · refine .inr ⟨x, h1, h2, h3, h4, fun i s hi => ⟨hw.cell ?_ (h5 i s hi).1, (h5 i s hi).2⟩⟩
    rw [add_block]
    exact h.2 (by have := (List.getElem?_eq_some_iff.1 hi).1; omega) x h1
theorem StrsIn.mono {F G : Nat → Prop} {w : World} {a : Option Addr} {len cap : Nat} {L : List ByteArray} (h : StrsIn w F a len cap L) (hFG : ∀ b, b < w.heap.size → F b → G b) : StrsIn w G a len cap L := by
  refine ⟨h.1, fun h0 x hx => hFG _ ?_ (h.2 h0 x hx)⟩
  have hl := h.1.length
  obtain ⟨y, hy, hc⟩ := h.1.some h0
  obtain rfl := Option.some.inj (hx.symm.trans hy)
  have := block_lt_of_cell (hc 0 (L[0]'(by omega)) (List.getElem?_eq_getElem _)).1
  rwa [add_block] at this
theorem StrsIn.of {w : World} {a : Option Addr} {len cap : Nat} {L : List ByteArray} (h : IsStrs w a len cap L) : StrsIn w (fun b => b < w.heap.size) a len cap L :=
  StrsIn.mono (F := fun _ => True) ⟨h, fun _ _ _ => trivial⟩ (fun _ hb _ => hb)
/-- a list of zones in the blocks of a set -/
def ZonesIn (w : World) (F : Nat → Prop) (a : Option Addr) (len cap : Nat) (Z : List Zone) : Prop :=
  (a = none ∧ len = 0 ∧ cap = 0 ∧ Z = []) ∨
  ∃ x, a = some x ∧ len ≤ cap ∧ cap ≤ maxLen ∧ Z.length = len ∧ x.block < w.heap.size ∧ F x.block ∧ (∀ (i : Nat) z, Z[i]? = some z →
    w.cell? (x.add (i * 3)) = some (.int .i64 z.state) ∧ w.cell? (x.add (i * 3 + 1)) = some (.int .i64 z.durable) ∧
    ∃ sa sl sc, w.cell? (x.add (i * 3 + 2)) = some (.slice sa sl sc) ∧ StrsIn w F sa sl sc z.sectors)
theorem ZonesIn.is {w : World} {F : Nat → Prop} {a : Option Addr} {len cap : Nat} {Z : List Zone} (h : ZonesIn w F a len cap Z) : IsZones w a len cap Z := by
  rcases h with h | ⟨x, h1, h2, h3, h4, h5, _, h7⟩
  · exact .inl h
  · refine .inr ⟨x, h1, h2, h3, h4, h5, fun i z hi => ?_⟩
    obtain ⟨c1, c2, sa, sl, sc, c3, hs⟩ := h7 i z hi
    exact ⟨c1, c2, sa, sl, sc, c3, hs.1⟩
theorem ZonesIn.mono {F G : Nat → Prop} {w : World} {a : Option Addr} {len cap : Nat} {Z : List Zone} (h : ZonesIn w F a len cap Z) (hFG : ∀ b, b < w.heap.size → F b → G b) : ZonesIn w G a len cap Z := by
  rcases h with h | ⟨x, h1, h2, h3, h4, h5, h6, h7⟩
  · exact .inl h
  · refine .inr ⟨x, h1, h2, h3, h4, h5, hFG _ h5 h6, fun i z hi => ?_⟩
    obtain ⟨c1, c2, sa, sl, sc, c3, hs⟩ := h7 i z hi
    exact ⟨c1, c2, sa, sl, sc, c3, hs.mono hFG⟩
theorem ZonesIn.of {w : World} {a : Option Addr} {len cap : Nat} {Z : List Zone} (h : IsZones w a len cap Z) : ZonesIn w (fun b => b < w.heap.size) a len cap Z := by
  rcases h with h | ⟨x, h1, h2, h3, h4, h5, h7⟩
  · exact .inl h
  · refine .inr ⟨x, h1, h2, h3, h4, h5, h5, fun i z hi => ?_⟩
    obtain ⟨c1, c2, sa, sl, sc, c3, hs⟩ := h7 i z hi
    exact ⟨c1, c2, sa, sl, sc, c3, .of hs⟩
theorem ZonesIn.cut {F : Nat → Prop} {w : World} {a : Option Addr} {len cap : Nat} {Z : List Zone} (h : ZonesIn w F a len cap Z) : ZonesIn w (fun b => F b ∧ b < w.heap.size) a len cap Z := h.mono fun _ hb hf => ⟨hf, hb⟩
theorem ZonesIn.on {F : Nat → Prop} {w w' : World} {a : Option Addr} {len cap : Nat} {Z : List Zone} (h : ZonesIn w F a len cap Z) (hw : Agree F w w') : ZonesIn w' F a len cap Z := by
  rcases h with h | ⟨x, h1, h2, h3, h4, h5, h6, h7⟩
  · exact .inl h
  · refine .inr ⟨x, h1, h2, h3, h4, Nat.lt_of_lt_of_le h5 hw.1, h6, fun i z hi => ?_⟩
    obtain ⟨c1, c2, sa, sl, sc, c3, hs⟩ := h7 i z hi
    have hF : ∀ n, F (x.add n).block := fun n => by rw [add_block]; exact h6
    exact ⟨hw.cell (hF _) c1, hw.cell (hF _) c2, sa, sl, sc, hw.cell (hF _) c3, hs.on hw⟩
theorem ZonesIn.zone {w : World} {F : Nat → Prop} {a : Option Addr} {len cap : Nat} {Z : List Zone} (h : ZonesIn w F a len cap Z) (i : Nat) (hi : i < len) : ∃ x z sa sl sc, a = some x ∧ Z[i]? = some z ∧ ZoneAt w x i z sa sl sc ∧ StrsIn w F sa sl sc z.sectors := by
  have hl := h.is.length
  rcases h with ⟨_, rfl, _, _⟩ | ⟨x, h1, _, _, _, _, _, h7⟩
  · omega
  · have hz : Z[i]? = some (Z[i]'(by omega)) := List.getElem?_eq_getElem _
    obtain ⟨c1, c2, sa, sl, sc, c3, hs⟩ := h7 i _ hz
    exact ⟨x, _, sa, sl, sc, h1, hz, ⟨c1, by rw [← add_off x (i * 3) 0]; exact c2, by rw [← add_off x (i * 3) 1]; exact c3⟩, hs⟩
/-- the blocks of a set, and all that are made from now on -/
abbrev Plus (F : Nat → Prop) (n : Nat) : Nat → Prop := fun b => F b ∨ n ≤ b
/-- what a function that returns a device and an error leaves -/
def DevPost (w : World) (F : Nat → Prop) (len : Nat) (D : Dev) (E : Int) (e : Ending) (w' : World) : Prop :=
  ∃ a cap, e = .returned (.tuple #[devV D a len cap, .int .i64 E]) ∧ ZonesIn w' (Plus F w.heap.size) a len cap D.zones ∧ Below w.heap.size w w'
end Go.Proofs.Ytlplomofgbmgaaa

/- Lists of zones as cells: copied, changed in one place, read again. -/
namespace Go.Proofs.Ytlplomofgbmgaaa
open Go.RowKit Plan ZnsMath

/-- the cells of zones -/
def ZCells (w : World) (F : Nat → Prop) (C : List Value) (Z : List Zone) : Prop :=
  C.length = Z.length * 3 ∧ ∀ (i : Nat) z, Z[i]? = some z → C[i * 3]? = some (.int .i64 z.state) ∧ C[i * 3 + 1]? = some (.int .i64 z.durable) ∧ ∃ sa sl sc, C[i * 3 + 2]? = some (.slice sa sl sc) ∧ StrsIn w F sa sl sc z.sectors
theorem ZCells.on {w w' : World} {F : Nat → Prop} {C : List Value} {Z : List Zone} (h : ZCells w F C Z) (hw : Agree F w w') : ZCells w' F C Z := by
  refine ⟨h.1, fun i z hi => ?_⟩
  obtain ⟨c1, c2, sa, sl, sc, c3, hs⟩ := h.2 i z hi
  exact ⟨c1, c2, sa, sl, sc, c3, hs.on hw⟩
theorem ZCells.mono {w : World} {F G : Nat → Prop} {C : List Value} {Z : List Zone} (h : ZCells w F C Z) (hFG : ∀ b, b < w.heap.size → F b → G b) : ZCells w G C Z := by
  refine ⟨h.1, fun i z hi => ?_⟩
  obtain ⟨c1, c2, sa, sl, sc, c3, hs⟩ := h.2 i z hi
  exact ⟨c1, c2, sa, sl, sc, c3, hs.mono hFG⟩
theorem ZCells.nil (w : World) (F : Nat → Prop) : ZCells w F [] [] := ⟨rfl, fun i z hi => by cases hi⟩
theorem ZCells.snoc {w : World} {F : Nat → Prop} {C : List Value} {Z : List Zone} (h : ZCells w F C Z) (z : Zone) {sa : Option Addr} {sl sc : Nat} (hs : StrsIn w F sa sl sc z.sectors) : ZCells w F (C ++ [.int .i64 z.state, .int .i64 z.durable, .slice sa sl sc]) (Z ++ [z]) := by
  refine ⟨by simp [h.1]; omega, fun i y hi => ?_⟩
  have hl := h.1
  by_cases hlt : i < Z.length
  · rw [List.getElem?_append_left hlt] at hi
    obtain ⟨c1, c2, ta, tl, tc, c3, ht⟩ := h.2 i y hi
    rw [List.getElem?_append_left (by omega), List.getElem?_append_left (by omega), List.getElem?_append_left (by omega)]
    exact ⟨c1, c2, ta, tl, tc, c3, ht⟩
  · have hi2 := (List.getElem?_eq_some_iff.1 hi).1
    simp at hi2
    obtain rfl : i = Z.length := by omega
    have hy : z = y := by simpa using hi
    subst hy
    rw [List.getElem?_append_right (by omega), List.getElem?_append_right (by omega), List.getElem?_append_right (by omega)]
    rw [show Z.length * 3 - C.length = 0 by omega, show Z.length * 3 + 1 - C.length = 1 by omega, show Z.length * 3 + 2 - C.length = 2 by omega]
    exact ⟨rfl, rfl, sa, sl, sc, rfl, hs⟩
/-- the cells of a list of zones that lies in memory -/
theorem ZonesIn.cells {w : World} {F : Nat → Prop} {x : Addr} {len cap : Nat} {Z : List Zone} (h : ZonesIn w F (some x) len cap Z) : ∃ C, ZCells w F C Z ∧ (∀ j u, C[j]? = some u → w.cell? (x.add j) = some u) ∧ ∀ u ∈ C, u.oneCell' = true := by
  have hlen := h.is.length
  have key : ∀ n, n ≤ len → ∃ C, ZCells w F C (Z.take n) ∧ (∀ j u, C[j]? = some u → w.cell? (x.add j) = some u) ∧ ∀ u ∈ C, u.oneCell' = true := by
    intro n
    induction n with
    | zero => intro _; exact ⟨[], ZCells.nil w F, fun j u hu => (by cases hu), fun u hu => (by cases hu)⟩
    | succ n ih =>
      intro hn
      obtain ⟨C, h1, h2, h3⟩ := ih (by omega)
      obtain ⟨x', z, sa, sl, sc, hx, hz, ⟨c1, c2, c3⟩, hs⟩ := h.zone n (by omega)
      obtain rfl := Option.some.inj hx
      rw [← add_off x (n * 3) 0] at c2
      rw [← add_off x (n * 3) 1] at c3
      have hnext : Z.take (n + 1) = Z.take n ++ [z] := by rw [List.take_add_one, hz]; rfl
      have hCl : C.length = n * 3 := by rw [h1.1, List.length_take]; omega
      refine ⟨_, by rw [hnext]; exact h1.snoc z hs, fun j u hu => ?_, fun u hu => ?_⟩
      · by_cases hj : j < C.length
        · rw [List.getElem?_append_left hj] at hu
          exact h2 j u hu
        · rw [List.getElem?_append_right (by omega)] at hu
          have hj2 := (List.getElem?_eq_some_iff.1 hu).1
          simp at hj2
          have hcase : j = n * 3 ∨ j = n * 3 + 1 ∨ j = n * 3 + 2 := by omega
          rcases hcase with rfl | rfl | rfl
          · rw [show n * 3 - C.length = 0 by omega] at hu
            obtain rfl := Option.some.inj hu
            exact c1
          · rw [show n * 3 + 1 - C.length = 1 by omega] at hu
            obtain rfl := Option.some.inj hu
            exact c2
          · rw [show n * 3 + 2 - C.length = 2 by omega] at hu
            obtain rfl := Option.some.inj hu
            exact c3
      · rcases List.mem_append.1 hu with hu | hu
        · exact h3 u hu
        · simp only [List.mem_cons, List.not_mem_nil, or_false] at hu
          rcases hu with rfl | rfl | rfl <;> rfl
  have := key len (Nat.le_refl _)
  rwa [List.take_of_length_le (by omega)] at this
theorem ZCells.set {w : World} {F : Nat → Prop} {C : List Value} {Z : List Zone} (h : ZCells w F C Z) (k : Nat) (hk : k < Z.length) (z : Zone) {sa : Option Addr} {sl sc : Nat} (hs : StrsIn w F sa sl sc z.sectors) :
    ZCells w F (((C.set (k * 3) (.int .i64 z.state)).set (k * 3 + 1) (.int .i64 z.durable)).set (k * 3 + 2) (.slice sa sl sc)) (Z.set k z) := by
  have hl := h.1
  refine ⟨by simp [h.1], fun i y hi => ?_⟩
  by_cases hik : i = k
  · subst hik
    have hy : z = y := by rw [List.getElem?_set_self hk] at hi; exact Option.some.inj hi
    subst hy
    refine ⟨?_, ?_, sa, sl, sc, ?_, hs⟩
    · rw [List.getElem?_set_ne (by omega), List.getElem?_set_ne (by omega), List.getElem?_set_self (by omega)]
    · rw [List.getElem?_set_ne (by omega), List.getElem?_set_self (by simp; omega)]
    · rw [List.getElem?_set_self (by simp; omega)]
  · rw [List.getElem?_set_ne (fun e => hik e.symm)] at hi
    obtain ⟨c1, c2, ta, tl, tc, c3, ht⟩ := h.2 i y hi
    refine ⟨?_, ?_, ta, tl, tc, ?_, ht⟩
    all_goals
      rw [List.getElem?_set_ne (by omega), List.getElem?_set_ne (by omega), List.getElem?_set_ne (by omega)]
      assumption
theorem add_lit0 (g n : Nat) : (⟨g, 0, none⟩ : Addr).add n = ⟨g, n, none⟩ := by rw [Addr.add_lit, Nat.zero_add]
/-- a list of zones that the call owns is one that is read -/
theorem owns_zones {w : World} {F : Nat → Prop} {B : Nat} {v : Value} {n : Nat} {C : List Value} {Z : List Zone} (h : w.ownsRow B 28 3 v n C) (hz : ZCells w F C Z) (hF : ∀ b, v.ownBlock = some b → F b) : Z.length = n ∧ ∃ a cap, v = .slice a n cap ∧ ZonesIn w F a n cap Z := by
  have hl : Z.length = n := by have h1 := h.1; have h2 := hz.1; omega
  refine ⟨hl, ?_⟩
  rcases h.2 with ⟨rfl, rfl⟩ | ⟨g, cap, cur, rfl, hb, hg, h1, h2, h3, h4⟩
  · obtain rfl : Z = [] := List.length_eq_zero_iff.1 hl
    exact ⟨none, 0, rfl, .inl ⟨rfl, rfl, rfl, rfl⟩⟩
  · refine ⟨_, _, rfl, .inr ⟨_, rfl, h1, h2, hl, (Array.getElem?_eq_some_iff.1 hg).1, hF g rfl, fun i z hi => ?_⟩⟩
    obtain ⟨c1, c2, sa, sl, sc, c3, hs⟩ := hz.2 i z hi
    have hc := fun j u hu => h.cells (g := g) rfl j u hu
    exact ⟨hc _ _ c1, hc _ _ c2, sa, sl, sc, hc _ _ c3, hs⟩
theorem owns_cell {w : World} {B sz g n cap : Nat} {t : TypeId} {C : List Value} (h : w.ownsRow B t sz (.slice (some ⟨g, 0, none⟩) n cap) n C) (j : Nat) (u : Value) :
    (w.setCell ⟨g, j, none⟩ u).ownsRow B t sz (.slice (some ⟨g, 0, none⟩) n cap) n (C.set j u) := by
  obtain ⟨h1, h2⟩ := h
  rcases h2 with ⟨h, _⟩ | ⟨g', cap', cur, hv, hb, hg, k1, k2, k3, k4⟩
  · cases h
  · cases hv
    refine ⟨by rw [List.length_set]; exact h1, .inr ⟨g, cap, cur.setIfInBounds j u, rfl, hb, setCell_row hg j _, k1, k2, by simpa using k3, ?_⟩⟩
    rw [Array.toList_setIfInBounds, List.take_set, k4]
theorem zone_info6 : (Try.prog.info? 28).map (fun i => (i.zero, i.size, i.bytes)) = some (some (.agg #[.int .i64 0, .int .i64 0, .slice none 0 0]), 3, 40) := by kernel_rfl
theorem row3 {w : World} {g : Nat} {a b c : Value} {t : TypeId} {fr : Nat × Nat} (h : w.heap[g]? = some (.cells #[a, b, c] t fr)) :
    g < w.heap.size ∧ w.cell? ⟨g, 0, none⟩ = some a ∧ w.cell? ⟨g, 1, none⟩ = some b ∧ w.cell? ⟨g, 2, none⟩ = some c :=
  ⟨(Array.getElem?_eq_some_iff.1 h).1, cell_of_row _ _ 0 _ _ _ h, cell_of_row _ _ 1 _ _ _ h, cell_of_row _ _ 2 _ _ _ h⟩
end Go.Proofs.Ytlplomofgbmgaaa

/- Lists of sectors that grow; slices.Clip on strings. -/
namespace Go.Proofs.Ytlplomofgbmgaaa
open Go.RowKit Plan ZnsMath

theorem owned_some {w : World} {B n : Nat} {t : TypeId} {v : Value} {xs : List Value} (h : w.ownsRow B t 1 v n xs) (hn : 0 < n) : ∃ g c, v = .slice (some ⟨g, 0, none⟩) n c ∧ B ≤ g ∧ g < w.heap.size := by
  rcases h.2 with ⟨_, h0⟩ | ⟨g, cap, cur, rfl, hb, hg, _⟩
  · omega
  · exact ⟨g, cap, rfl, hb, (Array.getElem?_eq_some_iff.1 hg).1⟩
theorem strsIn_own {w : World} {F : Nat → Prop} {B g c n : Nat} {L : List ByteArray} (h : w.ownsRow B 9 1 (.slice (some ⟨g, 0, none⟩) n c) n (strs L)) (hs : ∀ s ∈ L, s.size ≤ maxLen) (hF : F g) : StrsIn w F (some ⟨g, 0, none⟩) n c L := by
  obtain ⟨-, a, cap, e, hi⟩ := owns_strs h hs
  cases e
  exact ⟨hi, fun _ x hx => by obtain rfl := Option.some.inj hx; exact hF⟩
theorem strs_small {w : World} {a : Option Addr} {n cap : Nat} {L : List ByteArray} (h : IsStrs w a n cap L) : ∀ s ∈ L, s.size ≤ maxLen := by
  intro s hs
  rcases h with ⟨_, _, _, rfl⟩ | ⟨x, _, _, _, _, h5⟩
  · cases hs
  · obtain ⟨i, hi, rfl⟩ := List.mem_iff_getElem.1 hs
    exact (h5 i _ (List.getElem?_eq_getElem hi)).2
theorem IsStrs.cap_le {w : World} {a : Option Addr} {n cap : Nat} {L : List ByteArray} (h : IsStrs w a n cap L) : n ≤ cap ∧ cap ≤ maxLen ∧ (a = none → n = 0 ∧ cap = 0) := by
  rcases h with ⟨rfl, rfl, rfl, rfl⟩ | ⟨x, rfl, h1, h2, _⟩
  · exact ⟨Nat.le_refl _, by unfold maxLen; omega, fun _ => ⟨rfl, rfl⟩⟩
  · exact ⟨h1, h2, fun e => by cases e⟩
theorem one_cell {w : World} {H : Nat} (hH : w.heap.size = H) (s : ByteArray) : ∀ j u, ([Value.string s] : List Value)[j]? = some u → (w.alloc (.cells #[.string s] 9)).cell? ((⟨H, 0, none⟩ : Addr).add j) = some u := by
  subst hH
  intro j u hu
  have hj := (List.getElem?_eq_some_iff.1 hu).1
  obtain rfl : j = 0 := by simp at hj; omega
  obtain rfl : Value.string s = u := by simpa using hu
  rw [Addr.add_lit]
  exact cell_of_row _ _ 0 _ _ _ (heap_alloc_new w _)
end Go.Proofs.Ytlplomofgbmgaaa

/- The walks of the document's own begin, shut and with. -/
namespace Go.Proofs.Ytlplomofgbmgaaa
open Go.RowKit Plan ZnsMath

abbrev devRow (size op act : Int) (a : Option Addr) (len cap : Nat) : Obj := .cells #[.int .i64 size, .int .i64 op, .int .i64 act, .slice a len cap] 24
abbrev zoneRow (st du : Int) (a : Option Addr) (len cap : Nat) : Obj := .cells #[.int .i64 st, .int .i64 du, .slice a len cap] 28
theorem zoneE_of {D : Dev} {k : Int} (h : zoneE D k = 0) : checkE D = 0 ∧ ¬ k < 0 ∧ ¬ (D.zones.length : Int) ≤ k := by
  unfold zoneE at h
  split at h
  · rename_i h1; exact absurd h h1
  · rename_i h1
    split at h
    · cases h
    · exact ⟨by omega, by omega, by omega⟩
set_option maxHeartbeats 1000000 in
theorem refBegin_any (D : Dev) (a : Option Addr) (len cap : Nat) (k : Int) (w : World) (hz : IsZones w a len cap D.zones) :
    Calls Try.prog 46 #[devV D a len cap, .int .i64 k] w fun e w' => e = .returned (.int .i64 (beginE D k)) ∧ Below w.heap.size w w' := by
  have hl := hz.length
  have hck : ∀ W, Below w.heap.size w W → Calls Try.prog 14 #[devV D a len cap] W fun e w' => e = .returned (.int .i64 (checkE D)) ∧ Below W.heap.size W w' := fun W h => refCheck05_any D a len cap W (hz.on h (Nat.le_refl _))
  have hB : Below w.heap.size w (w.alloc (devRow D.size D.maxOpen D.maxActive a len cap)) := (Below.refl _ _).alloc (Nat.le_refl _) _
  have hre : beginE D k = if checkE D ≠ 0 then checkE D else if k < 0 ∨ (D.zones.length : Int) ≤ k then 5 else if stateAt D k = 5 then 6 else 0 := by
    unfold beginE zoneE
    by_cases h1 : checkE D = 0 <;> by_cases h2 : k < 0 ∨ (D.zones.length : Int) ≤ k <;> simp [h1, h2]
  have hR := fun W (h : Below w.heap.size w W) i (hi : i < len) => (hz.on h (Nat.le_refl _)).zone i hi
  generalize hBE : beginE D k = BE at hre
  generalize hCE : checkE D = CE at hck hre
  have hst : ∀ (i : Nat) (z : Zone), D.zones[i]? = some z → k = (i : Int) → stateAt D k = z.state := fun i z hi hk => by
    subst hk
    simp [stateAt, List.getD_eq_getElem?_getD, hi]
  generalize stateAt D k = ST at hre hst
  obtain ⟨size, op, act, Z⟩ := D
  change Calls Try.prog 46 #[.agg #[.int .i64 size, .int .i64 op, .int .i64 act, .slice a len cap], .int .i64 k] w _
  try simp only at hre hl hst hR
  rw [hl] at hre
  have HK := Lib.hid hck
  have HB := Lib.hid hB
  have HRE := Lib.hid hre
  have HR := Lib.hid hR
  have HST := Lib.hid hst
  clear hz hck hB hre hBE hCE hl hR hst
  by_cases h1 : CE = 0
  · subst h1
    by_cases h2 : k < 0 ∨ (len : Int) ≤ k
    · have hend : BE = 5 := by rw [HRE.out, if_neg (by decide), if_pos h2]
      subst hend
      have h3 : k < 0 ∨ (¬ k < 0 ∧ (len : Int) ≤ k) := by omega
      clear h2
      rcases h3 with h2 | ⟨h2, h3⟩
      all_goals
        go_enter Try.func46, Try.ntmps46
        go_wp2_with (go_at_call 14; ((with_reducible refine (HK.out _ HB.out).mono ?_); rintro e w1 ⟨rfl, hb1⟩; have hx1 := row_on hb1 (heap_alloc_new w _) (by simp); obtain ⟨y1, d0, d1, d2, d3⟩ := row4 hx1))
        go_ret
        exact ⟨rfl, HB.out.trans (hb1.mono (by simp))⟩
    · obtain ⟨i, rfl⟩ : ∃ i : Nat, k = (i : Int) := ⟨k.toNat, by omega⟩
      have hi : i < len := by omega
      have hiI : (i : Int) < (len : Int) := by omega
      by_cases h3 : ST = 5
      · have hend : BE = 6 := by rw [HRE.out, if_neg (by decide), if_neg h2, if_pos h3]
        subst hend
        go_enter Try.func46, Try.ntmps46
        go_wp2_with (go_at_call 14; ((with_reducible refine (HK.out _ HB.out).mono ?_); rintro e w1 ⟨rfl, hb1⟩; have hx1 := row_on hb1 (heap_alloc_new w _) (by simp); obtain ⟨y1, d0, d1, d2, d3⟩ := row4 hx1; obtain ⟨x, z, sa, sl, sc, rfl, hzk, hza, -⟩ := HR.out w1 (HB.out.trans (hb1.mono (by simp))) i hi; have hs5 : (z.state == 5) = true := by rw [← HST.out i z hzk rfl]; simp [h3]))
        go_ret
        exact ⟨rfl, HB.out.trans (hb1.mono (by simp))⟩
      · have hend : BE = 0 := by rw [HRE.out, if_neg (by decide), if_neg h2, if_neg h3]
        subst hend
        go_enter Try.func46, Try.ntmps46
        go_wp2_with (go_at_call 14; ((with_reducible refine (HK.out _ HB.out).mono ?_); rintro e w1 ⟨rfl, hb1⟩; have hx1 := row_on hb1 (heap_alloc_new w _) (by simp); obtain ⟨y1, d0, d1, d2, d3⟩ := row4 hx1; obtain ⟨x, z, sa, sl, sc, rfl, hzk, hza, -⟩ := HR.out w1 (HB.out.trans (hb1.mono (by simp))) i hi; have hs5 : (z.state == 5) = false := by rw [← HST.out i z hzk rfl]; simp [h3]))
        go_ret
        exact ⟨rfl, HB.out.trans (hb1.mono (by simp))⟩
  · have hend : BE = CE := by rw [HRE.out, if_pos h1]
    subst hend
    have h2 : (BE != 0) = true := by simp [h1]
    go_enter Try.func46, Try.ntmps46
    go_wp2_with (go_at_call 14; ((with_reducible refine (HK.out _ HB.out).mono ?_); rintro e w1 ⟨rfl, hb1⟩))
    go_ret
    exact ⟨rfl, HB.out.trans (hb1.mono (by simp))⟩
set_option maxHeartbeats 1000000 in
theorem refShut_any (z : Zone) (a : Option Addr) (len cap : Nat) (w : World) (hl : z.sectors.length = len) :
    Calls Try.prog 49 #[zoneV z a len cap] w fun e w' => e = .returned (zoneV (shut z) a len cap) ∧ Below w.heap.size w w' := by
  obtain ⟨st, du, L⟩ := z
  change Calls Try.prog 49 #[.agg #[.int .i64 st, .int .i64 du, .slice a len cap]] w fun e w' => e = .returned (.agg #[.int .i64 (if L.length = 0 then 0 else 3), .int .i64 du, .slice a len cap]) ∧ Below w.heap.size w w'
  try simp only at hl
  rw [hl]
  clear hl
  by_cases h : len = 0
  · subst h
    rw [if_pos rfl]
    go_enter Try.func49, Try.ntmps49
    go_wp2_with fail
    exact bodyPost_ret (results_cell_row rfl _ _ _ _ _ _ _ rfl (heap_second _ _ _) Try.underlying28 rfl zone_info) rfl ⟨rfl, ((Below.refl _ _).alloc (Nat.le_refl _) _).alloc (by simp) _⟩
  · rw [if_neg h]
    have h0 : ((len : Int) == 0) = false := by simp [h]
    go_enter Try.func49, Try.ntmps49
    go_wp2_with fail
    exact bodyPost_ret (results_cell_row rfl _ _ _ _ _ _ _ rfl (heap_second _ _ _) Try.underlying28 rfl zone_info) rfl ⟨rfl, ((Below.refl _ _).alloc (Nat.le_refl _) _).alloc (by simp) _⟩
theorem zones_empty (w : World) (a b c : Obj) : ((((w.alloc a).alloc b).alloc c).alloc (.cells #[] 28)).ownsRow (w.heap.size + 1 + 1 + 1) 28 3 (.slice (some ⟨w.heap.size + 1 + 1 + 1, 0, none⟩) 0 0) 0 [] := by
  have := World.ownsRow_made (base := w.heap.size + 1 + 1 + 1) (e := 28) (size := 3) (((w.alloc a).alloc b).alloc c) #[] 0 (by simp) (by unfold maxLen; decide) rfl
  rwa [World.size_alloc, World.size_alloc, World.size_alloc] at this
theorem heap_third (w : World) (a b c : Obj) : (((w.alloc a).alloc b).alloc c).heap[w.heap.size + 1 + 1]? = some c := by
  have := heap_alloc_new ((w.alloc a).alloc b) c
  rwa [World.size_alloc, World.size_alloc] at this
theorem owns_copy {w : World} {B sz g n cap : Nat} {t : TypeId} {xs : List Value} (h : w.ownsRow B t sz (.slice (some ⟨g, 0, none⟩) (0 + n) cap) (0 + n) ([] ++ xs)) : w.ownsRow B t sz (.slice (some ⟨g, 0, none⟩) n cap) n xs := by
  rw [Nat.zero_add, List.nil_append] at h
  exact h
theorem with_facts {W3 w7 : World} {H g7 n c7 : Nat} {o0 o1 o2 : Obj} {C : List Value} (r0 : W3.heap[H]? = some o0) (r1 : W3.heap[H + 1]? = some o1) (r2 : W3.heap[H + 1 + 1]? = some o2) (hg : W3.grownBy w7 (Value.slice (some ⟨H + 1 + 1 + 1, 0, none⟩) 0 0).ownBlock)
    (ho : w7.ownsRow (H + 1 + 1 + 1) 28 3 (.slice (some ⟨g7, 0, none⟩) n c7) n C) : w7.heap[H]? = some o0 ∧ w7.heap[H + 1]? = some o1 ∧ w7.heap[H + 1 + 1]? = some o2 ∧ H + 1 + 1 + 1 ≤ g7 := by
  have hg : W3.grownBy w7 (some (H + 1 + 1 + 1)) := hg
  exact ⟨(hg.block H (lt_of_block r0) (fun e => by have := Option.some.inj e; omega)).trans r0, (hg.block _ (lt_of_block r1) (fun e => by have := Option.some.inj e; omega)).trans r1, (hg.block _ (lt_of_block r2) (fun e => by have := Option.some.inj e; omega)).trans r2, (ho.lt g7 rfl).1⟩
theorem owns_free5 {w : World} {B sz g n cap : Nat} {t : TypeId} {xs : List Value} (h : w.ownsRow B t sz (.slice (some ⟨g, 0, none⟩) n cap) n xs) (q : Nat) : w.frozen? ⟨g, q, none⟩ = false := by
  rcases h.2 with ⟨h, _⟩ | ⟨g', cap', cur, hv, hb, hg, _⟩
  · cases h
  · cases hv
    exact row_free hg q
theorem three_cells {w W : World} {B g n cap : Nat} {F : Nat → Prop} {C : List Value} {Z : List Zone} (h : w.ownsRow B 28 3 (.slice (some ⟨g, 0, none⟩) n cap) n C) (hz : ZCells W F C Z) {k : Nat} (hk : k < Z.length) :
    ∃ u0 u1 u2, w.cell? ⟨g, k * 3, none⟩ = some u0 ∧ w.cell? ⟨g, k * 3 + 1, none⟩ = some u1 ∧ w.cell? ⟨g, k * 3 + 2, none⟩ = some u2 := by
  obtain ⟨c1, c2, sa, sl, sc, c3, -⟩ := hz.2 k Z[k] (List.getElem?_eq_getElem hk)
  have hc := fun j u hu => h.cells (g := g) rfl j u hu
  have e1 := hc _ _ c1
  have e2 := hc _ _ c2
  have e3 := hc _ _ c3
  rw [add_lit0] at e1 e2 e3
  exact ⟨_, _, _, e1, e2, e3⟩
/-- the store of a zone into a list -/
theorem store_zone {P : Program} {ops : Array Oper} {rest : List Oper} {a : Act} {w : World} {Q : Exit → Act → World → Prop} (ty : TypeId) (x y : Operand) {t' : TypeId} {pos : String} {after : Array Edge}
    (g o : Nat) (v0 v1 v2 : Value) (hx : a.eval x = .pointer (some ⟨g, o, none⟩)) (hy : a.eval y = .agg #[v0, v1, v2]) (ht : w.there g o 3) (hi : (P.info? ty).map (·.size) = some 3)
    (h1 : (#[v0, v1, v2] : Array Value).all (·.oneCell') = true) (h : ∀ w', w' = w.setCells g o [v0, v1, v2] → wpList P ops Q rest (a.put none undef) w') : wpList P ops Q (⟨none, .store ty x y, t', pos, after, none⟩ :: rest) a w :=
  wpList_store_mid rfl ty x y rfl g o #[v0, v1, v2] hx hy ht hi h1 (h _ rfl)
/-- .. at an index of it -/
theorem idx_store_zone {P : Program} {ops : Array Oper} {rest : List Oper} {a : Act} {w : World} {Q : Exit → Act → World → Prop} (tt ty : TypeId) (d : Tmp) (s i y : Operand) {t1 t' : TypeId} {pos1 pos : String} {after1 after : Array Edge}
    (g o : Nat) (v0 v1 v2 : Value) (hv : (execOp a.eval ⟨some d, .indexAddr tt s i, t1, pos1, after1, none⟩).run P w = .ok (.value (.pointer (some ⟨g, o, none⟩))) w)
    (hx : (a.put (some d) (.pointer (some ⟨g, o, none⟩))).eval (.tmp d) = .pointer (some ⟨g, o, none⟩)) (hy : (a.put (some d) (.pointer (some ⟨g, o, none⟩))).eval y = .agg #[v0, v1, v2]) (ht : w.there g o 3) (hi : (P.info? ty).map (·.size) = some 3)
    (h1 : (#[v0, v1, v2] : Array Value).all (·.oneCell') = true) (h : ∀ w', w' = w.setCells g o [v0, v1, v2] → wpList P ops Q rest ((a.put (some d) (.pointer (some ⟨g, o, none⟩))).put none undef) w') :
    wpList P ops Q (⟨some d, .indexAddr tt s i, t1, pos1, after1, none⟩ :: ⟨none, .store ty (.tmp d) y, t', pos, after, none⟩ :: rest) a w :=
  wpList_plain rfl fun _ hK => by
    unfold Oper.wp
    rw [hv]
    exact hK _ _ (store_zone ty (.tmp d) y g o v0 v1 v2 hx hy ht hi h1 h)
theorem run_store_zone (w : World) (g o : Nat) (v0 v1 v2 : Value) (ht : w.there g o 3) (h1 : (#[v0, v1, v2] : Array Value).all (·.oneCell') = true) :
    (storeVar 28 ⟨g, o, none⟩ (.agg #[v0, v1, v2])).run Try.prog w = .ok () (w.setCells g o [v0, v1, v2]) := run_storeVar_mid w g o 28 #[v0, v1, v2] ht zone_info h1
theorem run_store_at (w : World) (g o : Nat) (v0 v1 v2 : Value) (ht : w.there g o 3) (h1 : (#[v0, v1, v2] : Array Value).all (·.oneCell') = true) :
    (Instr.storeAt 28 (.pointer (some ⟨g, o, none⟩)) (.agg #[v0, v1, v2])).run Try.prog w = .ok () (w.setCells g o [v0, v1, v2]) := run_storeAt_mid w g o 28 #[v0, v1, v2] ht zone_info h1
theorem with_there {w7 : World} {B H g7 n c7 k : Nat} {F : Nat → Prop} {C : List Value} {Z : List Zone} {W : World} {u : Value} (ho : w7.ownsRow B 28 3 (.slice (some ⟨g7, 0, none⟩) n c7) n C) (hz : ZCells W F C Z) (hk : k < Z.length) (hne : H ≠ g7) :
    (w7.setCell ⟨H, 3, none⟩ u).there g7 (k * 3) 3 := by
  have o8 := ownsRow_setCell_other ho (a := ⟨H, 3, none⟩) (fun e => hne (Option.some.inj (show some g7 = some H from e)).symm) u
  obtain ⟨u0, u1, u2, p0, p1, p2⟩ := three_cells o8 hz hk
  intro j hj
  have hf := owns_free5 o8 (k * 3 + j)
  have : j = 0 ∨ j = 1 ∨ j = 2 := by omega
  rcases this with rfl | rfl | rfl
  · exact ⟨by rw [Nat.add_zero, p0]; rfl, hf⟩
  · exact ⟨by rw [p1]; rfl, hf⟩
  · exact ⟨by rw [p2]; rfl, hf⟩
theorem owns_other {w : World} {B sz g n cap H : Nat} {t : TypeId} {xs : List Value} {cs : Array Value} (h : w.ownsRow B t sz (.slice (some ⟨g, 0, none⟩) n cap) n xs) (hne : g ≠ H) : (w.setRow H cs).ownsRow B t sz (.slice (some ⟨g, 0, none⟩) n cap) n xs := by
  obtain ⟨h1, h2⟩ := h
  rcases h2 with ⟨h, _⟩ | ⟨g', cap', cur, hv, hb, hg, r⟩
  · cases h
  · cases hv
    exact ⟨h1, .inr ⟨g, cap, cur, rfl, hb, (setRow_other _ _ _ _ hne).trans hg, r⟩⟩
theorem with_end {w w7 W3 : World} {F : Nat → Prop} {g7 len c7 k : Nat} {size op act : Int} {x : Addr} {cap : Nat} {C : List Value} {Z : List Zone} {st du : Int} {L : List ByteArray} {sa : Option Addr} {sl sc : Nat} {o2 : Obj}
    (q0 : w7.heap[w.heap.size]? = some (devRow size op act (some x) len cap)) (q2 : w7.heap[w.heap.size + 1 + 1]? = some o2) (q3 : w.heap.size + 1 + 1 + 1 ≤ g7)
    (ho : w7.ownsRow (w.heap.size + 1 + 1 + 1) 28 3 (.slice (some ⟨g7, 0, none⟩) len c7) len C) (hz : ZCells w F C Z) (hk : k < Z.length) (hb : Below w.heap.size w W3) (hg : W3.grownBy w7 (Value.slice (some ⟨w.heap.size + 1 + 1 + 1, 0, none⟩) 0 0).ownBlock)
    (hW : w.heap.size + 1 + 1 + 1 < W3.heap.size) (hs : StrsIn w F sa sl sc L) (w9 : World)
    (e : w9 = (w7.setCell ⟨w.heap.size, 3, none⟩ (.slice (some ⟨g7, 0, none⟩) len c7)).setCells g7 (k * 3) [.int .i64 st, .int .i64 du, .slice sa sl sc]) :
    w9.heap[w.heap.size]? = some (devRow size op act (some ⟨g7, 0, none⟩) len c7) ∧ w9.heap[w.heap.size + 1 + 1]? = some o2 ∧ ∀ cs, ZonesIn (w9.setRow (w.heap.size + 1 + 1) cs) (Plus F w.heap.size) (some ⟨g7, 0, none⟩) len c7 (Z.set k ⟨st, du, L⟩) ∧ Below w.heap.size w (w9.setRow (w.heap.size + 1 + 1) cs) := by
  have hg : W3.grownBy w7 (some (w.heap.size + 1 + 1 + 1)) := hg
  have b7 := hb.grown hg (by omega) (fun k hk => by have := Option.some.inj hk; omega)
  have x8 := setCell_row q0 3 (.slice (some ⟨g7, 0, none⟩) len c7)
  have y8 := (Below.heap_setCell w7 ⟨w.heap.size, 3, none⟩ (.slice (some ⟨g7, 0, none⟩) len c7) (w.heap.size + 1 + 1) (show w.heap.size + 1 + 1 ≠ w.heap.size by omega)).trans q2
  have o8 := ownsRow_setCell_other ho (a := ⟨w.heap.size, 3, none⟩) (fun e => by have := Option.some.inj (show some g7 = some w.heap.size from e); omega) (.slice (some ⟨g7, 0, none⟩) len c7)
  have b8 := b7.setCell (show w.heap.size ≤ (⟨w.heap.size, 3, none⟩ : Addr).block from Nat.le_refl _) (.slice (some ⟨g7, 0, none⟩) len c7)
  generalize w7.setCell ⟨w.heap.size, 3, none⟩ (.slice (some ⟨g7, 0, none⟩) len c7) = w8 at x8 y8 o8 b8 e
  have e : w9 = ((w8.setCell ⟨g7, k * 3, none⟩ (.int .i64 st)).setCell ⟨g7, k * 3 + 1, none⟩ (.int .i64 du)).setCell ⟨g7, k * 3 + 1 + 1, none⟩ (.slice sa sl sc) := e
  subst e
  have o9 := owns_cell (owns_cell (owns_cell o8 (k * 3) (.int .i64 st)) (k * 3 + 1) (.int .i64 du)) (k * 3 + 1 + 1) (.slice sa sl sc)
  have b9 := ((b8.setCell (show w.heap.size ≤ (⟨g7, k * 3, none⟩ : Addr).block by show w.heap.size ≤ g7; omega) (.int .i64 st)).setCell (show w.heap.size ≤ (⟨g7, k * 3 + 1, none⟩ : Addr).block by show w.heap.size ≤ g7; omega) (.int .i64 du)).setCell (show w.heap.size ≤ (⟨g7, k * 3 + 1 + 1, none⟩ : Addr).block by show w.heap.size ≤ g7; omega) (.slice sa sl sc)
  have hfar : ∀ j, j ≠ g7 → (((w8.setCell ⟨g7, k * 3, none⟩ (.int .i64 st)).setCell ⟨g7, k * 3 + 1, none⟩ (.int .i64 du)).setCell ⟨g7, k * 3 + 1 + 1, none⟩ (.slice sa sl sc)).heap[j]? = w8.heap[j]? := fun j hj =>
    (Below.heap_setCell _ _ _ j hj).trans ((Below.heap_setCell _ _ _ j hj).trans (Below.heap_setCell _ _ _ j hj))
  refine ⟨(hfar _ (by omega)).trans x8, (hfar _ (by omega)).trans y8, fun cs => ?_⟩
  have b10 := below_setRow b9 (show w.heap.size ≤ w.heap.size + 1 + 1 by omega) cs
  refine ⟨?_, b10⟩
  have o10 := owns_other (H := w.heap.size + 1 + 1) (cs := cs) o9 (by omega)
  obtain ⟨-, a', cap', heq, h⟩ := owns_zones (F := Plus F w.heap.size) o10 (((hz.set k hk ⟨st, du, L⟩ hs).on (Agree.below b10)).mono (fun _ _ hb => .inl hb)) (fun b e => .inr (by have := Option.some.inj (show some g7 = some b from e); omega))
  cases heq
  exact h
end Go.Proofs.Ytlplomofgbmgaaa
