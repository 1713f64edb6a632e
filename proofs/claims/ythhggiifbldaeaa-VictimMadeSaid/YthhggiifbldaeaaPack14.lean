/- Texts that belong together, part 14. -/
import Derived.Test.YthhggiifbldaeaaPack13
import Derived.Deep.AppendLies

/- A list of strings that lies in memory and is only read. -/
namespace Go.Proofs.Ythhggiifbldaeaa
open Go.RowKit Plan

/-- a list of strings that came in, or that the call has made -/
def IsStrs (w : World) (a : Option Addr) (len cap : Nat) (zs : List ByteArray) : Prop :=
  (a = none ∧ len = 0 ∧ cap = 0 ∧ zs = []) ∨
  ∃ x, a = some x ∧ len ≤ cap ∧ cap ≤ maxLen ∧ zs.length = len ∧ (∀ (i : Nat) s, zs[i]? = some s → w.cell? (x.add i) = some (.string s) ∧ s.size ≤ maxLen)
theorem add_block (x : Addr) (i : Nat) : (x.add i).block = x.block := by unfold Addr.add; split <;> rfl
theorem IsStrs.on {B : Nat} {w w' : World} {a : Option Addr} {len cap : Nat} {zs : List ByteArray} (h : IsStrs w a len cap zs) (hb : Below B w w') (hB : w.heap.size ≤ B) : IsStrs w' a len cap zs := by
  rcases h with h | ⟨x, h1, h2, h3, h4, h5⟩
  · exact .inl h
  · refine .inr ⟨x, h1, h2, h3, h4, fun i s hi => ⟨?_, (h5 i s hi).2⟩⟩
    have hc := (h5 i s hi).1
    have hlt := block_lt_of_cell hc
    rw [hb.cell (by omega), hc]
theorem IsStrs.length {w : World} {a : Option Addr} {len cap : Nat} {zs : List ByteArray} (h : IsStrs w a len cap zs) : zs.length = len := by
  rcases h with ⟨_, rfl, _, rfl⟩ | ⟨x, _, _, _, h4, _⟩
  · rfl
  · exact h4
theorem IsStrs.some {w : World} {a : Option Addr} {len cap : Nat} {zs : List ByteArray} (h : IsStrs w a len cap zs) (h0 : 0 < len) : ∃ x, a = some x ∧ (∀ (i : Nat) s, zs[i]? = some s → w.cell? (x.add i) = some (.string s) ∧ s.size ≤ maxLen) := by
  rcases h with ⟨_, rfl, _, _⟩ | ⟨x, h1, _, _, _, h5⟩
  · omega
  · exact ⟨x, h1, h5⟩
def bytesOf (zs : List ByteArray) : List (List UInt8) := zs.map fun s => s.data.toList
end Go.Proofs.Ythhggiifbldaeaa

/- The walks of the maker's record and sector, for any dice. -/
namespace Go.Proofs.Ythhggiifbldaeaa
open Go.RowKit Plan

/-- the kind and the payload of the record that is made -/
def madeT (zs : List Int) (k : Nat) : Bool := nxt zs (stp zs (stp zs k)) 4 == 3
def madeK (zs : List Int) (k : Nat) : Int := if madeT zs k = true then 2 else 1
def madeP (zs : List Int) (k : Nat) : ByteArray := if madeT zs k = true then ⟨#[]⟩ else ⟨(valueL (nxt zs (stp zs k) 200).toNat).toArray⟩
def stp3 (zs : List Int) (k : Nat) : Nat := stp zs (stp zs (stp zs k))
def MadePost (w : World) (base g : Nat) (zs : List Int) (k : Nat) (blocks version : Int) (e : Ending) (w' : World) : Prop :=
  e = .returned (.agg #[.int .i64 (madeK zs k), .int .i64 (nxt zs k blocks), .int .i64 version, .int .i64 0, .string (madeP zs k)]) ∧ Dice w' base g zs (stp3 zs k) ∧ w.grownBy w' (some g)
/-- a record that is made can be encoded -/
theorem made_ok (zs : List Int) (k : Nat) (blocks version : Int) (h1 : 1 ≤ blocks) (h2 : blocks ≤ 4294967296) (h3 : 0 ≤ version) (h4 : version ≤ 1099511627776) : RecMath.checkE (mk (madeK zs k) (nxt zs k blocks) version 0 (madeP zs k)) = 0 := by
  have hr := nxt_range zs k blocks h1
  rw [check_eq]
  unfold madeK madeP
  by_cases h : madeT zs k = true
  · rw [if_pos h, if_pos h]
    have hs : (⟨#[]⟩ : ByteArray).size = 0 := rfl
    rw [hs, if_neg (by omega), if_neg (by omega), if_neg (by omega)]
  · rw [if_neg h, if_neg h, size_bytes, value_length, if_neg (by omega), if_neg (by omega), if_neg (by omega)]
theorem grownBy_below {B : Nat} {a b c : World} {r : Option Nat} (h : a.grownBy b r) (h2 : Below B b c) (hB : a.heap.size ≤ B) : a.grownBy c r :=
  ⟨h2.os.trans h.os, h2.tape.trans h.tape, h2.output.trans h.output, Nat.le_trans h.size h2.size, fun k hk hr => (h2.block k (by omega)).trans (h.block k hk hr)⟩
theorem grownBy_refl (a : World) (r : Option Nat) : a.grownBy a r := ⟨rfl, rfl, rfl, Nat.le_refl _, fun _ _ _ => rfl⟩
theorem grownBy_more {a b c : World} {r : Option Nat} (h : a.grownBy b r) (h2 : b.grownBy c r) : a.grownBy c r := grownBy_trans h h2
theorem row_grown {a b : World} {g x : Nat} {o : Obj} (h : a.grownBy b (some g)) (hx : a.heap[x]? = some o) (hne : x ≠ g) : b.heap[x]? = some o :=
  (h.block x (Array.getElem?_eq_some_iff.1 hx).1 (fun e => hne (Option.some.inj e))).trans hx
theorem dice_alloc {w : World} {base g : Nat} {zs : List Int} {k : Nat} (h : Dice w base g zs k) (o : Obj) : Dice (w.alloc o) base g zs k := dice_on h ((Below.refl _ _).alloc (Nat.le_refl _) o) (Nat.le_refl _)
theorem grownBy_setRow (w : World) (x : Nat) (cs : Array Value) : w.grownBy (w.setRow x cs) (some x) :=
  ⟨rfl, rfl, rfl, Nat.le_of_eq (by simp [World.setRow]), fun i _ hne => setRow_other w x i cs (fun e => hne (by rw [e]))⟩
theorem grownBy_setCell (w : World) (p : Addr) (u : Value) : w.grownBy (w.setCell p u) (some p.block) :=
  ⟨rfl, rfl, rfl, Nat.le_of_eq (by simp [World.setCell]), fun i _ hne => Below.heap_setCell w p u i (fun e => hne (by rw [e]))⟩
theorem grownBy_row {a b : World} {r : Option Nat} (h : a.grownBy b r) {x : Nat} (hx : a.heap.size ≤ x) (cs : Array Value) : a.grownBy (b.setRow x cs) r :=
  ⟨h.os, h.tape, h.output, Nat.le_trans h.size (Nat.le_of_eq (by simp [World.setRow])), fun i hi hr => (setRow_other b x i cs (by omega)).trans (h.block i hi hr)⟩
theorem grownBy_cell {a b : World} {r : Option Nat} (h : a.grownBy b r) {p : Addr} (hx : a.heap.size ≤ p.block) (u : Value) : a.grownBy (b.setCell p u) r :=
  ⟨h.os, h.tape, h.output, Nat.le_trans h.size (Nat.le_of_eq (by simp [World.setCell])), fun i hi hr => (Below.heap_setCell b p u i (by omega)).trans (h.block i hi hr)⟩
theorem row_free {w : World} {x : Nat} {cs : Array Value} {t : TypeId} (h : w.heap[x]? = some (.cells cs t (0, 0))) (o : Nat) : w.frozen? ⟨x, o, none⟩ = false := by simp [World.frozen?, h]
set_option maxHeartbeats 1000000 in
theorem made_any (w : World) (base g : Nat) (zs : List Int) (k : Nat) (blocks version : Int) (hd : Dice w base g zs k) (hl : zs.length ≤ 100000) (h1 : 1 ≤ blocks) (h2 : blocks ≤ 4611686018427387904) :
    Calls Try.prog 20 #[.pointer (some ⟨g, 0, none⟩), .int .i64 blocks, .int .i64 version] w (MadePost w base g zs k blocks version) := by
  have hg := dice_lt hd
  have hn1 : ∀ W, Dice W base g zs k → Calls Try.prog 17 #[.pointer (some ⟨g, 0, none⟩), .int .i64 blocks] W (NextPost W base g zs k blocks) := fun W h => next_any W base g zs k blocks h hl h1 h2
  have hn2 : ∀ W, Dice W base g zs (stp zs k) → Calls Try.prog 17 #[.pointer (some ⟨g, 0, none⟩), .int .i64 200] W (NextPost W base g zs (stp zs k) 200) := fun W h => next_any W base g zs _ 200 h hl (by decide) (by decide)
  have hn3 : ∀ W, Dice W base g zs (stp zs (stp zs k)) → Calls Try.prog 17 #[.pointer (some ⟨g, 0, none⟩), .int .i64 4] W (NextPost W base g zs (stp zs (stp zs k)) 4) := fun W h => next_any W base g zs _ 4 h hl (by decide) (by decide)
  have hv : ∀ W, Calls Try.prog 38 #[.int .i64 (nxt zs (stp zs k) 200)] W fun e w' => e = .returned (.string ⟨(valueL (nxt zs (stp zs k) 200).toNat).toArray⟩) ∧ Below W.heap.size W w' := fun W => by
    have hr := nxt_range zs (stp zs k) 200 (by decide)
    have h := value_any (nxt zs (stp zs k) 200).toNat (by omega) W
    rwa [Int.toNat_of_nonneg hr.1] at h
  have hT : (nxt zs (stp zs (stp zs k)) 4 == 3) = madeT zs k := rfl
  have hK : madeK zs k = if madeT zs k = true then 2 else 1 := rfl
  have hP : madeP zs k = if madeT zs k = true then ⟨#[]⟩ else ⟨(valueL (nxt zs (stp zs k) 200).toNat).toArray⟩ := rfl
  have N1 := Lib.hid hn1
  have N2 := Lib.hid hn2
  have N3 := Lib.hid hn3
  have V := Lib.hid hv
  have D := Lib.hid (dice_alloc hd (.cells #[.int .i64 0, .int .i64 0, .int .i64 0, .int .i64 0, .string ⟨#[]⟩] 81))
  clear hn1 hn2 hn3 hv
  have HK := Lib.hid hK
  have HP := Lib.hid hP
  clear hK hP
  cases hB : madeT zs k
  · have HB := Lib.hid hB
    rw [hB] at hT
    clear hB
    go_enter Try.func20, Try.ntmps20
    go_wp2_with (first
      | (go_at_call 17; ((with_reducible refine (N1.out _ D.out).mono ?_); rintro e w1 ⟨rfl, hd1, hg1, hs1⟩; have r1 := row_grown hg1 (heap_alloc_new w _) (by omega); have t1 : w1.heap.size = w.heap.size + 1 := hs1.trans (World.size_alloc _ _)))
      | (go_at_call 17; ((with_reducible refine (N2.out _ hd1).mono ?_); rintro e w2 ⟨rfl, hd2, hg2, hs2⟩; have r2 := row_grown hg2 r1 (by omega)))
      | (go_at_call 38; ((with_reducible refine (V.out _).mono ?_); rintro e w3 ⟨rfl, hb3⟩; have hd3 := dice_on hd2 hb3 (Nat.le_refl _); have hz := dice_lt hd3; have t3 := hb3.size; have r3 := row_al (heap_old hb3 (Array.getElem?_eq_some_iff.1 r2).1 r2)))
      | (go_at_call 17; ((with_reducible refine (N3.out _ (dice_alloc hd3 _)).mono ?_); rintro e w4 ⟨rfl, hd4, hg4, hs4⟩; have r4 := row_grown hg4 (r3 _) (by omega); have rr := row_grown hg4 (heap_alloc_new w3 _) (by omega)))
      | ((with_reducible refine Plan.load_lit 81 (.tmp 7) w3.heap.size ?_ rr Try.underlying81 ?_ ?_ ?_); (· rfl); (· rfl); (· exact rec_info); simp only [Act.put, List.setIfInBounds_toArray, List.set_cons_zero, List.set_cons_succ])
      | ((with_reducible refine Plan.store_lit 81 (.tmp 6) _ w.heap.size ?_ r4 ?_ ?_ ?_ ?_ ?_ ?_); rotate_left; (· rfl); (· rfl); (· exact rec_info); (· rfl); (· simp [Value.oneCell']); simp only [Act.put]))
    have G : w.grownBy w4 (some g) := grownBy_trans (grownBy_below (grownBy_trans (grownBy_trans (World.grownBy_alloc w _ _) hg1) hg2) hb3 (by have := hs1; have := hs2; simp at *; omega)) (grownBy_trans (World.grownBy_alloc w3 _ _) hg4)
    refine bodyPost_ret (results_cell_row rfl _ _ _ _ _ _ _ rfl (setRow_heap _ _ _ _ _ _ r4) Try.underlying81 rfl rec_info) rfl ⟨?_, dice_far hd4 (grownBy_setRow w4 _ _) hg, grownBy_row G (Nat.le_refl _) _⟩
    rw [HK.out, HP.out, HB.out]
    rfl
  · have HB := Lib.hid hB
    rw [hB] at hT
    clear hB
    go_enter Try.func20, Try.ntmps20
    go_wp2_with (first
      | (go_at_call 17; ((with_reducible refine (N1.out _ D.out).mono ?_); rintro e w1 ⟨rfl, hd1, hg1, hs1⟩; have r1 := row_grown hg1 (heap_alloc_new w _) (by omega); have t1 : w1.heap.size = w.heap.size + 1 := hs1.trans (World.size_alloc _ _)))
      | (go_at_call 17; ((with_reducible refine (N2.out _ hd1).mono ?_); rintro e w2 ⟨rfl, hd2, hg2, hs2⟩; have r2 := row_grown hg2 r1 (by omega)))
      | (go_at_call 38; ((with_reducible refine (V.out _).mono ?_); rintro e w3 ⟨rfl, hb3⟩; have hd3 := dice_on hd2 hb3 (Nat.le_refl _); have hz := dice_lt hd3; have t3 := hb3.size; have r3 := row_al (heap_old hb3 (Array.getElem?_eq_some_iff.1 r2).1 r2)))
      | (go_at_call 17; ((with_reducible refine (N3.out _ (dice_alloc hd3 _)).mono ?_); rintro e w4 ⟨rfl, hd4, hg4, hs4⟩; have r4 := row_grown hg4 (r3 _) (by omega); have rr := row_grown hg4 (heap_alloc_new w3 _) (by omega); obtain ⟨yy, c0, c1, c2, c3, c4⟩ := row5 rr; have ff := row_free rr; have rr2 := setCell_row (setCell_row rr 0 (.int .i64 2)) 4 (.string ⟨#[]⟩); simp only [List.setIfInBounds_toArray, List.set_cons_succ, List.set_cons_zero] at rr2; have rq := (Below.heap_setCell (w4.setCell ⟨w3.heap.size, 0, none⟩ (.int .i64 2)) ⟨w3.heap.size, 4, none⟩ (.string ⟨#[]⟩) w.heap.size (show w.heap.size ≠ w3.heap.size by omega)).trans ((Below.heap_setCell w4 ⟨w3.heap.size, 0, none⟩ (.int .i64 2) w.heap.size (show w.heap.size ≠ w3.heap.size by omega)).trans r4)))
      | ((with_reducible refine Plan.load_lit 81 (.tmp 7) w3.heap.size ?_ rr2 Try.underlying81 ?_ ?_ ?_); (· rfl); (· rfl); (· exact rec_info); simp only [Act.put, List.setIfInBounds_toArray, List.set_cons_zero, List.set_cons_succ])
      | ((with_reducible refine Plan.store_lit 81 (.tmp 6) _ w.heap.size ?_ rq ?_ ?_ ?_ ?_ ?_ ?_); rotate_left; (· rfl); (· rfl); (· exact rec_info); (· rfl); (· simp [Value.oneCell']); simp only [Act.put]))
    have G : w.grownBy w4 (some g) := grownBy_trans (grownBy_below (grownBy_trans (grownBy_trans (World.grownBy_alloc w _ _) hg1) hg2) hb3 (by have := hs1; have := hs2; simp at *; omega)) (grownBy_trans (World.grownBy_alloc w3 _ _) hg4)
    have hR : w.heap.size ≤ w3.heap.size := by have := hs1; have := hs2; have := hb3.size; simp at *; omega
    have hR2 : g < w3.heap.size := by omega
    have e1 := dice_far (dice_far hd4 (grownBy_setCell w4 ⟨w3.heap.size, 0, none⟩ (.int .i64 2)) hR2) (grownBy_setCell (w4.setCell ⟨w3.heap.size, 0, none⟩ (.int .i64 2)) ⟨w3.heap.size, 4, none⟩ (.string ⟨#[]⟩)) hR2
    have e2 := grownBy_cell (grownBy_cell G (p := ⟨w3.heap.size, 0, none⟩) hR (.int .i64 2)) (p := ⟨w3.heap.size, 4, none⟩) hR (.string ⟨#[]⟩)
    refine bodyPost_ret (results_cell_row rfl _ _ _ _ _ _ _ rfl (setRow_heap _ _ _ _ _ _ rq) Try.underlying81 rfl rec_info) rfl ⟨?_, dice_far e1 (grownBy_setRow _ _ _) hg, grownBy_row e2 (Nat.le_refl _) _⟩
    rw [HK.out, HP.out, HB.out]
    rfl
theorem sector_made (k b v m : Int) (p : ByteArray) (w : World) :
    Calls Try.prog 19 #[.agg #[.int .i64 k, .int .i64 b, .int .i64 v, .int .i64 m, .string p]] w fun e w' => e = .returned (.string ⟨(RecMath.encL (mk k b v m p)).toArray⟩) ∧ Below w.heap.size w w' := by
  have h := refEncode_any k b v m p
  generalize (⟨(RecMath.encL (mk k b v m p)).toArray⟩ : ByteArray) = S at h ⊢
  generalize RecMath.checkE (mk k b v m p) = E at h
  have H := Lib.hid h
  clear h
  go_enter Try.func19, Try.ntmps19
  go_wp2_with (go_at_call 37; ((with_reducible refine (H.out _).mono ?_); rintro e w1 ⟨rfl, hb1⟩))
  go_ret
  exact ⟨rfl, ((Below.refl _ _).alloc (Nat.le_refl _) _).trans (hb1.mono (by simp))⟩
end Go.Proofs.Ythhggiifbldaeaa

/- Devices that lie in memory and are only read. -/
namespace Go.Proofs.Ythhggiifbldaeaa
open Go.RowKit Plan ZnsMath

/-- a list of zones -/
def IsZones (w : World) (a : Option Addr) (len cap : Nat) (Z : List Zone) : Prop :=
  (a = none ∧ len = 0 ∧ cap = 0 ∧ Z = []) ∨
  ∃ x, a = some x ∧ len ≤ cap ∧ cap ≤ maxLen ∧ Z.length = len ∧ x.block < w.heap.size ∧ (∀ (i : Nat) z, Z[i]? = some z →
    w.cell? (x.add (i * 3)) = some (.int .i64 z.state) ∧ w.cell? (x.add (i * 3 + 1)) = some (.int .i64 z.durable) ∧
    ∃ sa sl sc, w.cell? (x.add (i * 3 + 2)) = some (.slice sa sl sc) ∧ IsStrs w sa sl sc z.sectors)
theorem IsZones.on {B : Nat} {w w' : World} {a : Option Addr} {len cap : Nat} {Z : List Zone} (h : IsZones w a len cap Z) (hb : Below B w w') (hB : w.heap.size ≤ B) : IsZones w' a len cap Z := by
  rcases h with h | ⟨x, h1, h2, h3, h4, hx, h5⟩
  · exact .inl h
  · refine .inr ⟨x, h1, h2, h3, h4, Nat.lt_of_lt_of_le hx hb.size, fun i z hi => ?_⟩
    obtain ⟨c1, c2, sa, sl, sc, c3, hs⟩ := h5 i z hi
    have hc : ∀ n, w'.cell? (x.add n) = w.cell? (x.add n) := fun n => hb.cell (by rw [add_block]; omega)
    exact ⟨by rw [hc, c1], by rw [hc, c2], sa, sl, sc, by rw [hc, c3], hs.on hb hB⟩
theorem IsZones.length {w : World} {a : Option Addr} {len cap : Nat} {Z : List Zone} (h : IsZones w a len cap Z) : Z.length = len := by
  rcases h with ⟨_, rfl, _, rfl⟩ | ⟨x, _, _, _, h4, _⟩
  · rfl
  · exact h4
/-- a zone of a list -/
theorem IsZones.at {w : World} {a : Option Addr} {len cap : Nat} {Z : List Zone} (h : IsZones w a len cap Z) (i : Nat) (hi : i < len) : ∃ x z, a = some x ∧ Z[i]? = some z ∧
    w.cell? (x.add (i * 3)) = some (.int .i64 z.state) ∧ w.cell? (x.add (i * 3 + 1)) = some (.int .i64 z.durable) ∧
    ∃ sa sl sc, w.cell? (x.add (i * 3 + 2)) = some (.slice sa sl sc) ∧ IsStrs w sa sl sc z.sectors := by
  have hl := h.length
  rcases h with ⟨_, rfl, _, _⟩ | ⟨x, h1, _, _, _, _, h5⟩
  · omega
  · exact ⟨x, Z[i]'(by omega), h1, List.getElem?_eq_getElem _, h5 i _ (List.getElem?_eq_getElem _)⟩
/-- a device as a value -/
abbrev devV (D : Dev) (a : Option Addr) (len cap : Nat) : Value := .agg #[.int .i64 D.size, .int .i64 D.maxOpen, .int .i64 D.maxActive, .slice a len cap]
/-- a zone as a value -/
abbrev zoneV (z : Zone) (a : Option Addr) (len cap : Nat) : Value := .agg #[.int .i64 z.state, .int .i64 z.durable, .slice a len cap]
end Go.Proofs.Ythhggiifbldaeaa

/- The walks of the document's own opened, active, Counts. -/
namespace Go.Proofs.Ythhggiifbldaeaa
open Go.RowKit Plan ZnsMath

theorem refOpened_any (s : Int) (w : World) :
    Calls Try.prog 58 #[.int .i64 s] w fun e w' => e = .returned (.bool (openB s)) ∧ w = w' := by
  go_enter Try.func58, Try.ntmps58
  go_wp2
  all_goals
    go_ret
    refine ⟨?_, rfl⟩
    simp [openB, *]
theorem refActive_any (s : Int) (w : World) :
    Calls Try.prog 59 #[.int .i64 s] w fun e w' => e = .returned (.bool (activeB s)) ∧ w = w' := by
  go_enter Try.func59, Try.ntmps59
  go_wp2_with (go_at_call 58; ((with_reducible refine (refOpened_any _ _).mono ?_); rintro e w1 ⟨rfl, rfl⟩))
  all_goals
    go_ret
    refine ⟨?_, rfl⟩
    simp [activeB, *]
theorem countO_snoc (Z : List Zone) (z : Zone) : countO (Z ++ [z]) = countO Z + (if openB z.state = true then 1 else 0) := by
  cases h : openB z.state <;> simp [countO, List.filter_append, h]
theorem countA_snoc (Z : List Zone) (z : Zone) : countA (Z ++ [z]) = countA Z + (if activeB z.state = true then 1 else 0) := by
  cases h : activeB z.state <;> simp [countA, List.filter_append, h]
theorem countO_le (Z : List Zone) : countO Z ≤ Z.length := List.length_filter_le _ _
theorem countA_le (Z : List Zone) : countA Z ≤ Z.length := List.length_filter_le _ _
set_option maxHeartbeats 1000000 in
theorem refCounts_any (D : Dev) (a : Option Addr) (len cap : Nat) (w : World) (hz : IsZones w a len cap D.zones) (hm : len ≤ 9223372036854775807) :
    Calls Try.prog 48 #[devV D a len cap] w fun e w' => e = .returned (.tuple #[.int .i64 (countO D.zones : Nat), .int .i64 (countA D.zones : Nat)]) ∧ Below w.heap.size w w' := by
  have hl := hz.length
  have hat := fun i hi => (hz.on ((Below.refl w.heap.size w).alloc (Nat.le_refl _) (.cells #[.int .i64 D.size, .int .i64 D.maxOpen, .int .i64 D.maxActive, .slice a len cap] 29)) (Nat.le_refl _)).at i hi
  generalize D.zones = Z at *
  have HA := Lib.hid hat
  have HL := Lib.hid hl
  clear hat hl hz
  go_enter Try.func48, Try.ntmps48
  go_wp2_with fail
  go_loop [4, 5, 6] (fun p q c => ∃ k : Nat, c = .int .i64 k ∧ k ≤ len ∧ p = .int .i64 (countO (Z.take k) : Nat) ∧ q = .int .i64 (countA (Z.take k) : Nat)) (fun _ _ c => len - (intOf c).toNat)
  case atStart => exact ⟨0, rfl, by omega, rfl, rfl⟩
  case round =>
    obtain ⟨k, rfl, hk, rfl, rfl⟩ := hrel
    by_cases hlt : k < len
    · obtain ⟨x, z, rfl, hzk, c1, -⟩ := HA.out k hlt
      have hkI : (k : Int) < (len : Int) := by omega
      have hnext : Z.take (k + 1) = Z.take k ++ [z] := by rw [List.take_add_one, hzk]; rfl
      have o1 := countO_snoc (Z.take k) z
      have a1 := countA_snoc (Z.take k) z
      have o2 := countO_le (Z.take k)
      have a2 := countA_le (Z.take k)
      rw [List.length_take] at o2 a2
      rw [← hnext] at o1 a1
      generalize countO (Z.take k) = p at *
      generalize countA (Z.take k) = q at *
      go_wp2_with (first
        | (go_at_call 58; ((with_reducible refine (refOpened_any _ _).mono ?_); rintro e w1 ⟨rfl, rfl⟩))
        | (go_at_call 59; ((with_reducible refine (refActive_any _ _).mono ?_); rintro e w1 ⟨rfl, rfl⟩)))
      all_goals
        go_round
        case rel => exact ⟨k + 1, by go_num, by omega, by rw [o1]; simp [*], by rw [a1]; simp [*]⟩
        case measure => simp [intOf]; omega
    · obtain rfl : k = len := by omega
      have hfull : Z.take k = Z := List.take_of_length_le (by rw [HL.out]; exact Nat.le_refl _)
      rw [hfull]
      go_wp2_with fail
      go_ret2
      exact ⟨rfl, (Below.refl _ _).alloc (Nat.le_refl _) _⟩
end Go.Proofs.Ythhggiifbldaeaa

/- The walk of the document's own test of a zone. -/
namespace Go.Proofs.Ythhggiifbldaeaa
open Go.RowKit Plan ZnsMath

theorem zero_beq (k : Nat) : ((k : Int) == 0) = (k == 0) := by rw [Bool.eq_iff_iff]; simp
theorem zone_info : (Try.prog.info? 69).map (·.size) = some 3 := by kernel_rfl
theorem dev_info : (Try.prog.info? 29).map (·.size) = some 4 := by kernel_rfl
def boundsB (z : Zone) (size : Int) : Bool := decide (¬(z.state < 0 ∨ 5 < z.state ∨ size < z.sectors.length ∨ z.durable < 0 ∨ (z.sectors.length : Int) < z.durable))
def shapeB (z : Zone) (size : Int) : Bool := if z.state = 0 ∨ z.state = 5 then z.sectors.length == 0 else if z.state = 4 then z.durable == z.sectors.length else decide ((z.sectors.length : Int) < size)
theorem right_eq (z : Zone) (size : Int) : rightB z size = (boundsB z size && sizesB z.sectors && shapeB z size) := rfl
set_option maxHeartbeats 1000000 in
theorem refRight_bad (z : Zone) (size : Int) (a : Option Addr) (len cap : Nat) (w : World) (hl : z.sectors.length = len) (hb : boundsB z size = false) :
    Calls Try.prog 47 #[zoneV z a len cap, .int .i64 size] w fun e w' => e = .returned (.bool false) ∧ Below w.heap.size w w' := by
  have h : z.state < 0 ∨ (¬ z.state < 0 ∧ 5 < z.state) ∨ (¬ z.state < 0 ∧ ¬ 5 < z.state ∧ size < (len : Int)) ∨ (¬ z.state < 0 ∧ ¬ 5 < z.state ∧ ¬ size < (len : Int) ∧ z.durable < 0) ∨ (¬ z.state < 0 ∧ ¬ 5 < z.state ∧ ¬ size < (len : Int) ∧ ¬ z.durable < 0 ∧ (len : Int) < z.durable) := by
    unfold boundsB at hb
    rw [hl] at hb
    simp only [decide_eq_false_iff_not] at hb
    omega
  clear hb hl
  obtain ⟨st, du, L⟩ := z
  change Calls Try.prog 47 #[.agg #[.int .i64 st, .int .i64 du, .slice a len cap], .int .i64 size] w _
  simp only at h
  rcases h with h | ⟨h1, h⟩ | ⟨h1, h2, h⟩ | ⟨h1, h2, h3, h⟩ | ⟨h1, h2, h3, h4, h⟩
  all_goals
    go_enter Try.func47, Try.ntmps47
    go_wp2
    go_ret
    exact ⟨rfl, (Below.refl _ _).alloc (Nat.le_refl _) _⟩
theorem sizesB_snoc (L : List ByteArray) (s : ByteArray) : sizesB (L ++ [s]) = (sizesB L && (s.size == 40)) := by simp [sizesB]
theorem sizesB_more (L T : List ByteArray) (h : sizesB L = false) : sizesB (L ++ T) = false := by
  unfold sizesB at h ⊢
  rw [List.all_append, h, Bool.false_and]
set_option maxHeartbeats 1000000 in
set_option maxRecDepth 20000 in
theorem refRight_good (z : Zone) (size : Int) (a : Option Addr) (len cap : Nat) (w : World) (hs : IsStrs w a len cap z.sectors) (hm : len ≤ 9223372036854775807) (hb : boundsB z size = true) :
    Calls Try.prog 47 #[zoneV z a len cap, .int .i64 size] w fun e w' => e = .returned (.bool (sizesB z.sectors && shapeB z size)) ∧ Below w.heap.size w w' := by
  have hl := hs.length
  have h : ¬ z.state < 0 ∧ ¬ 5 < z.state ∧ ¬ size < (len : Int) ∧ ¬ z.durable < 0 ∧ ¬ (len : Int) < z.durable := by
    unfold boundsB at hb
    rw [hl] at hb
    simp only [decide_eq_true_eq] at hb
    omega
  obtain ⟨h1, h2, h3, h4, h5⟩ := h
  clear hb
  have hsh : shapeB z size = if z.state = 0 ∨ z.state = 5 then len == 0 else if z.state = 4 then z.durable == len else decide ((len : Int) < size) := by unfold shapeB; rw [hl]
  generalize shapeB z size = SH at hsh
  obtain ⟨st, du, L⟩ := z
  change Calls Try.prog 47 #[.agg #[.int .i64 st, .int .i64 du, .slice a len cap], .int .i64 size] w fun e w' => e = .returned (.bool (sizesB L && SH)) ∧ Below w.heap.size w w'
  simp only at hl h1 h2 h3 h4 h5 hsh hs
  have hw := hs.on ((Below.refl w.heap.size w).alloc (Nat.le_refl _) (.cells #[.int .i64 st, .int .i64 du, .slice a len cap] 69)) (Nat.le_refl _)
  have hx : ∀ i : Nat, i < len → ∃ x s, a = some x ∧ L[i]? = some s ∧ (w.alloc (.cells #[.int .i64 st, .int .i64 du, .slice a len cap] 69)).cell? (x.add i) = some (.string s) := fun i hi => by
    obtain ⟨x, k1, k2⟩ := hw.some (by omega)
    exact ⟨x, L[i]'(by omega), k1, List.getElem?_eq_getElem _, (k2 i _ (List.getElem?_eq_getElem _)).1⟩
  have HX := Lib.hid hx
  have HL := Lib.hid hl
  have HS := Lib.hid hsh
  clear hl hsh hs hw hx
  go_enter Try.func47, Try.ntmps47
  go_wp2_with fail
  go_loop [6] (fun c => ∃ k : Nat, c = .int .i64 k ∧ k ≤ len ∧ sizesB (L.take k) = true) (fun c => len - (intOf c).toNat)
  case atStart => exact ⟨0, rfl, by omega, rfl⟩
  case round =>
    obtain ⟨k, rfl, hk, hsz⟩ := hrel
    by_cases hlt : k < len
    · obtain ⟨x, s, rfl, hsk, hc⟩ := HX.out k hlt
      have hkI : (k : Int) < (len : Int) := by omega
      have hnext : L.take (k + 1) = L.take k ++ [s] := by rw [List.take_add_one, hsk]; rfl
      have hsn := sizesB_snoc (L.take k) s
      rw [← hnext, hsz, Bool.true_and] at hsn
      by_cases h40 : s.size = 40
      · have h40I : ((s.size : Int) != 40) = false := by simp; omega
        rw [h40] at hsn
        go_wp2_with fail
        go_round
        case rel => exact ⟨k + 1, by go_num, by omega, hsn⟩
        case measure => simp [intOf]; omega
      · have h40I : ((s.size : Int) != 40) = true := by simp; omega
        have hbad : sizesB L = false := by
          rw [← List.take_append_drop (k + 1) L]
          exact sizesB_more _ _ (by rw [hsn]; simp [h40])
        go_wp2_with fail
        go_ret
        exact ⟨rfl, (Below.refl _ _).alloc (Nat.le_refl _) _⟩
    · obtain rfl : k = len := by omega
      have hfull : L.take k = L := List.take_of_length_le (by rw [HL.out]; exact Nat.le_refl _)
      rw [hfull] at hsz
      go_wp2_with fail
      all_goals
        go_ret
        refine ⟨?_, (Below.refl _ _).alloc (Nat.le_refl _) _⟩
        refine ret_bool ?_
        rw [HS.out]
        first | (simp_all; done) | (simp_all; exact zero_beq _)
theorem refRight_any (z : Zone) (size : Int) (a : Option Addr) (len cap : Nat) (w : World) (hs : IsStrs w a len cap z.sectors) (hm : len ≤ 9223372036854775807) :
    Calls Try.prog 47 #[zoneV z a len cap, .int .i64 size] w fun e w' => e = .returned (.bool (rightB z size)) ∧ Below w.heap.size w w' := by
  rw [right_eq]
  cases hb : boundsB z size with
  | false => exact refRight_bad z size a len cap w hs.length hb
  | true =>
    rw [Bool.true_and]
    exact refRight_good z size a len cap w hs hm hb
end Go.Proofs.Ythhggiifbldaeaa

/- The walk of the document's own Check of a device. -/
namespace Go.Proofs.Ythhggiifbldaeaa
open Go.RowKit Plan ZnsMath

theorem add_off (x : Addr) (m n : Nat) : x.add (m + (n + 1)) = ⟨(x.add m).block, (x.add m).off + (n + 1), none⟩ := by rw [← Addr.add_add, Addr.add_succ']
/-- a zone in memory, a device in memory: the cells -/
abbrev ZoneAt (w : World) (x : Addr) (k : Nat) (z : Zone) (sa : Option Addr) (sl sc : Nat) : Prop :=
  w.cell? (x.add (k * 3)) = some (.int .i64 z.state) ∧ w.cell? ⟨(x.add (k * 3)).block, (x.add (k * 3)).off + 1, none⟩ = some (.int .i64 z.durable) ∧ w.cell? ⟨(x.add (k * 3)).block, (x.add (k * 3)).off + 2, none⟩ = some (.slice sa sl sc)
abbrev DevAt (w : World) (g : Nat) (size op act : Int) (a : Option Addr) (len cap : Nat) : Prop :=
  w.cell? ⟨g, 0, none⟩ = some (.int .i64 size) ∧ w.cell? ⟨g, 1, none⟩ = some (.int .i64 op) ∧ w.cell? ⟨g, 2, none⟩ = some (.int .i64 act) ∧ w.cell? ⟨g, 3, none⟩ = some (.slice a len cap)
theorem row4 {w : World} {g : Nat} {a b c d : Value} {t : TypeId} {fr : Nat × Nat} (h : w.heap[g]? = some (.cells #[a, b, c, d] t fr)) :
    g < w.heap.size ∧ w.cell? ⟨g, 0, none⟩ = some a ∧ w.cell? ⟨g, 1, none⟩ = some b ∧ w.cell? ⟨g, 2, none⟩ = some c ∧ w.cell? ⟨g, 3, none⟩ = some d :=
  ⟨(Array.getElem?_eq_some_iff.1 h).1, cell_of_row _ _ 0 _ _ _ h, cell_of_row _ _ 1 _ _ _ h, cell_of_row _ _ 2 _ _ _ h, cell_of_row _ _ 3 _ _ _ h⟩
theorem ZoneAt.on {w w' : World} {x : Addr} {k : Nat} {z : Zone} {sa : Option Addr} {sl sc : Nat} (h : ZoneAt w x k z sa sl sc) (hb : Below w.heap.size w w') (hx : x.block < w.heap.size) : ZoneAt w' x k z sa sl sc := by
  have hc : ∀ n, w'.cell? ⟨(x.add (k * 3)).block, n, none⟩ = w.cell? ⟨(x.add (k * 3)).block, n, none⟩ := fun n => hb.cell (show (x.add (k * 3)).block < w.heap.size by rw [add_block]; exact hx)
  exact ⟨by rw [hb.cell (by rw [add_block]; exact hx)]; exact h.1, by rw [hc]; exact h.2.1, by rw [hc]; exact h.2.2⟩
theorem zone_block {w : World} {x : Addr} {k : Nat} {z : Zone} {sa : Option Addr} {sl sc : Nat} (h : ZoneAt w x k z sa sl sc) : x.block < w.heap.size := by
  have := block_lt_of_cell h.1
  rwa [add_block] at this
theorem IsZones.zone {w : World} {a : Option Addr} {len cap : Nat} {Z : List Zone} (h : IsZones w a len cap Z) (i : Nat) (hi : i < len) : ∃ x z sa sl sc, a = some x ∧ Z[i]? = some z ∧ ZoneAt w x i z sa sl sc ∧ IsStrs w sa sl sc z.sectors := by
  obtain ⟨x, z, h1, h2, h3, h4, sa, sl, sc, h5, h6⟩ := h.at i hi
  exact ⟨x, z, sa, sl, sc, h1, h2, ⟨h3, by rw [← add_off x (i * 3) 0]; exact h4, by rw [← add_off x (i * 3) 1]; exact h5⟩, h6⟩
theorem IsStrs.len_le {w : World} {a : Option Addr} {len cap : Nat} {L : List ByteArray} (h : IsStrs w a len cap L) : len ≤ 9223372036854775807 := by
  rcases h with ⟨_, rfl, _⟩ | ⟨x, _, h1, h2, _⟩
  · omega
  · unfold maxLen at h2; omega
theorem IsZones.len_le {w : World} {a : Option Addr} {len cap : Nat} {Z : List Zone} (h : IsZones w a len cap Z) : len ≤ 9223372036854775807 := by
  rcases h with ⟨_, rfl, _⟩ | ⟨x, _, h1, h2, _⟩
  · omega
  · unfold maxLen at h2; omega
theorem rightsB_snoc (Z : List Zone) (z : Zone) (size : Int) : rightsB (Z ++ [z]) size = (rightsB Z size && rightB z size) := by simp [rightsB]
theorem rightsB_more (Z T : List Zone) (size : Int) (h : rightsB Z size = false) : rightsB (Z ++ T) size = false := by
  unfold rightsB at h ⊢
  rw [List.all_append, h, Bool.false_and]
set_option maxHeartbeats 1000000 in
theorem refCheck05_config (D : Dev) (a : Option Addr) (len cap : Nat) (w : World) (hl : D.zones.length = len) (hb : configB D = false) :
    Calls Try.prog 36 #[devV D a len cap] w fun e w' => e = .returned (.int .i64 11) ∧ Below w.heap.size w w' := by
  obtain ⟨size, op, act, Z⟩ := D
  change Calls Try.prog 36 #[.agg #[.int .i64 size, .int .i64 op, .int .i64 act, .slice a len cap]] w _
  have h : (len : Int) < 1 ∨ (¬ (len : Int) < 1 ∧ 32 < (len : Int)) ∨ (¬ (len : Int) < 1 ∧ ¬ 32 < (len : Int) ∧ size < 3) ∨ (¬ (len : Int) < 1 ∧ ¬ 32 < (len : Int) ∧ ¬ size < 3 ∧ 64 < size)
      ∨ (¬ (len : Int) < 1 ∧ ¬ 32 < (len : Int) ∧ ¬ size < 3 ∧ ¬ 64 < size ∧ act < 1) ∨ (¬ (len : Int) < 1 ∧ ¬ 32 < (len : Int) ∧ ¬ size < 3 ∧ ¬ 64 < size ∧ ¬ act < 1 ∧ (len : Int) < act)
      ∨ (¬ (len : Int) < 1 ∧ ¬ 32 < (len : Int) ∧ ¬ size < 3 ∧ ¬ 64 < size ∧ ¬ act < 1 ∧ ¬ (len : Int) < act ∧ op < 1) ∨ (¬ (len : Int) < 1 ∧ ¬ 32 < (len : Int) ∧ ¬ size < 3 ∧ ¬ 64 < size ∧ ¬ act < 1 ∧ ¬ (len : Int) < act ∧ ¬ op < 1 ∧ act < op) := by
    unfold configB at hb
    simp only at hl
    simp only [hl, decide_eq_false_iff_not] at hb
    omega
  clear hb hl
  rcases h with h | ⟨h1, h⟩ | ⟨h1, h2, h⟩ | ⟨h1, h2, h3, h⟩ | ⟨h1, h2, h3, h4, h⟩ | ⟨h1, h2, h3, h4, h5, h⟩ | ⟨h1, h2, h3, h4, h5, h6, h⟩ | ⟨h1, h2, h3, h4, h5, h6, h7, h⟩
  all_goals
    go_enter Try.func36, Try.ntmps36
    go_wp2
    go_ret
    exact ⟨rfl, (Below.refl _ _).alloc (Nat.le_refl _) _⟩
set_option maxHeartbeats 1000000 in
set_option maxRecDepth 20000 in
theorem refCheck05_zones (D : Dev) (a : Option Addr) (len cap : Nat) (w : World) (hz : IsZones w a len cap D.zones) (hb : configB D = true) :
    Calls Try.prog 36 #[devV D a len cap] w fun e w' => e = .returned (.int .i64 (if rightsB D.zones D.size = false then 6 else if D.maxOpen < countO D.zones ∨ D.maxActive < countA D.zones then 6 else 0)) ∧ Below w.heap.size w w' := by
  have hl := hz.length
  have hcn : ∀ W, Below w.heap.size w W → Calls Try.prog 48 #[devV D a len cap] W fun e w' => e = .returned (.tuple #[.int .i64 (countO D.zones : Nat), .int .i64 (countA D.zones : Nat)]) ∧ Below W.heap.size W w' := fun W h => refCounts_any D a len cap W (hz.on h (Nat.le_refl _)) hz.len_le
  obtain ⟨size, op, act, Z⟩ := D
  change Calls Try.prog 36 #[.agg #[.int .i64 size, .int .i64 op, .int .i64 act, .slice a len cap]] w fun e w' => e = .returned (.int .i64 (if rightsB Z size = false then 6 else if op < countO Z ∨ act < countA Z then 6 else 0)) ∧ Below w.heap.size w w'
  try simp only at hz
  try simp only at hl
  try simp only at hcn
  obtain ⟨h1, h2, h3, h4, h5, h6, h7, h8⟩ : ¬ (len : Int) < 1 ∧ ¬ 32 < (len : Int) ∧ ¬ size < 3 ∧ ¬ 64 < size ∧ ¬ act < 1 ∧ ¬ (len : Int) < act ∧ ¬ op < 1 ∧ ¬ act < op := by
    unfold configB at hb
    simp only [decide_eq_true_eq] at hb
    rw [hl] at hb
    omega
  clear hb
  have hR := fun W (h : Below w.heap.size w W) i (hi : i < len) => (hz.on h (Nat.le_refl _)).zone i hi
  have HR := Lib.hid hR
  have HC := Lib.hid hcn
  have HL := Lib.hid hl
  generalize hRR : (if rightsB Z size = false then (6 : Int) else if op < countO Z ∨ act < countA Z then 6 else 0) = RR
  have HRR := Lib.hid hRR
  clear hR hcn hl hz hRR
  go_enter Try.func36, Try.ntmps36
  go_wp2_with fail
  go_loopw [3] (fun c wr => ∃ k : Nat, c = .int .i64 k ∧ k ≤ len ∧ rightsB (Z.take k) size = true ∧ wr.heap[w.heap.size]? = some (.cells #[.int .i64 size, .int .i64 op, .int .i64 act, .slice a len cap] 29 (0, 0)) ∧ Below w.heap.size w wr) (fun c _ => len - (intOf c).toNat)
  case atStart => exact ⟨0, rfl, by omega, rfl, heap_alloc_new _ _, (Below.refl _ _).alloc (Nat.le_refl _) _⟩
  case round =>
    obtain ⟨k, rfl, hk, hrt, hbox, hbl⟩ := hrel
    obtain ⟨y, d0, d1, d2, d3⟩ := row4 hbox
    by_cases hlt : k < len
    · obtain ⟨x, z, sa, sl, sc, rfl, hzk, hza, hzs⟩ := HR.out wr hbl k hlt
      have hkI : (k : Int) < (len : Int) := by omega
      have hnext : Z.take (k + 1) = Z.take k ++ [z] := by rw [List.take_add_one, hzk]; rfl
      have hsn := rightsB_snoc (Z.take k) z size
      rw [← hnext, hrt, Bool.true_and] at hsn
      have hRt := fun W (h : Below wr.heap.size wr W) => refRight_any z size sa sl sc W (hzs.on h (Nat.le_refl _)) hzs.len_le
      have HRt := Lib.hid hRt
      have hxb := zone_block hza
      clear hRt
      go_wp2_with fail
      refine Plan.start (fun W => DevAt W w.heap.size size op act (some x) len cap ∧ ZoneAt W x k z sa sl sc ∧ Below wr.heap.size wr W) [(0, true), (1, true), (2, true), (3, true), (4, true), (5, true), (6, true), (7, false), (8, true)] (by kernel_rfl) (by kernel_rfl) (by kernel_rfl) (by kernel_rfl) ⟨⟨d0, d1, d2, d3⟩, hza, (Below.refl _ _).drew⟩ ?_
      simp only [List.map_cons, List.map_nil, List.getElem?_toArray, List.getElem?_cons_zero, List.getElem?_cons_succ]
      repeat (first | (refine Plan.take ?_ (by rfl) ?_ ?_; rotate_left; (· rintro w9 ⟨⟨e0, e1, e2, e3⟩, ⟨z0, z1, z2⟩, -⟩; go_simp; (try rw [if_neg (by omega)]); all_goals (with_reducible rfl)); simp only [Act.put, List.setIfInBounds_toArray, List.set_cons_zero, List.set_cons_succ]) | (refine Plan.pass (by rfl) ?_; simp only [Act.put, List.setIfInBounds_toArray, List.set_cons_zero, List.set_cons_succ]))
      refine Plan.call (by rfl) 47 _ ?_ (HRt.out _ (Below.refl _ _).drew) ?_
      · go_simp
      rintro e w4 ⟨rfl, hb4⟩
      have hb4' := (Below.refl wr.heap.size wr).drew.trans hb4
      have hbox4 := row_on hb4' hbox y
      have hS4 : DevAt w4 w.heap.size size op act (some x) len cap ∧ ZoneAt w4 x k z sa sl sc ∧ Below wr.heap.size wr w4 := ⟨(row4 hbox4).2, hza.on hb4' hxb, hb4'⟩
      refine ⟨_, rfl, hS4, ?_⟩
      simp only [Act.put, List.setIfInBounds_toArray, List.set_cons_zero, List.set_cons_succ]
      repeat (first | (refine Plan.take ?_ (by rfl) ?_ ?_; rotate_left; (· rintro w9 ⟨⟨e0, e1, e2, e3⟩, ⟨z0, z1, z2⟩, -⟩; go_simp; (try rw [if_neg (by omega)]); all_goals (with_reducible rfl)); simp only [Act.put, List.setIfInBounds_toArray, List.set_cons_zero, List.set_cons_succ]) | (refine Plan.pass (by rfl) ?_; simp only [Act.put, List.setIfInBounds_toArray, List.set_cons_zero, List.set_cons_succ]))
      refine Plan.ends ?_
      have hbl4 := hbl.trans (hb4'.mono hbl.size)
      cases hrz : rightB z size with
      | true =>
        rw [hrz] at hsn
        go_wp2_with fail
        go_roundw
        case rel => exact ⟨k + 1, by go_num, by omega, hsn, hbox4, hbl4⟩
        case measure => simp [intOf]; omega
      | false =>
        rw [hrz] at hsn
        have hbad : rightsB Z size = false := by
          rw [← List.take_append_drop (k + 1) Z]
          exact rightsB_more _ _ _ hsn
        go_wp2_with fail
        go_ret
        refine ⟨ret_i64 ?_, hbl4⟩
        rw [← HRR.out, if_pos hbad]
    · obtain rfl : k = len := by omega
      have hfull : Z.take k = Z := List.take_of_length_le (by rw [HL.out]; exact Nat.le_refl _)
      rw [hfull] at hrt
      go_wp2_with (go_at_call 48; ((with_reducible refine (HC.out _ hbl).mono ?_); rintro e w4 ⟨rfl, hb4⟩; have hbox4 := row_on hb4 hbox y; obtain ⟨y4, d0, d1, d2, d3⟩ := row4 hbox4))
      all_goals
        go_ret
        refine ⟨ret_i64 ?_, hbl.trans (hb4.mono hbl.size)⟩
        rw [← HRR.out, if_neg (by rw [hrt]; decide)]
        first | rw [if_pos (by omega)] | rw [if_neg (by omega)]
theorem refCheck05_any (D : Dev) (a : Option Addr) (len cap : Nat) (w : World) (hz : IsZones w a len cap D.zones) :
    Calls Try.prog 36 #[devV D a len cap] w fun e w' => e = .returned (.int .i64 (checkE D)) ∧ Below w.heap.size w w' := by
  unfold checkE
  by_cases hb : configB D = false
  · rw [if_pos hb]
    exact refCheck05_config D a len cap w hz.length hb
  · rw [if_neg hb]
    exact refCheck05_zones D a len cap w hz (by simpa using hb)
end Go.Proofs.Ythhggiifbldaeaa

/- Lists of strings that the call owns, beside dice. -/
namespace Go.Proofs.Ythhggiifbldaeaa
open Go.RowKit Plan

/-- strings as cells -/
def strs (L : List ByteArray) : List Value := L.map Value.string
theorem strs_length (L : List ByteArray) : (strs L).length = L.length := by simp [strs]
theorem strs_cells (L : List ByteArray) : ∀ u ∈ strs L, u.oneCell' = true := by
  intro u hu
  obtain ⟨n, _, rfl⟩ := List.mem_map.1 hu
  rfl
theorem strs_app (L M : List ByteArray) : strs (L ++ M) = strs L ++ strs M := by simp [strs]
theorem strs_get {L : List ByteArray} {j : Nat} {s : ByteArray} (h : L[j]? = some s) : (strs L)[j]? = some (.string s) := by simp [strs, h]
theorem str_info : (Try.prog.info? 9).map (fun i => (i.zero, i.size, i.bytes)) = some (some (.string ByteArray.empty), 1, 16) := by kernel_rfl
theorem below_none {w w' : World} (hb : Below w.heap.size w w') : w.grownBy w' none := ⟨hb.os, hb.tape, hb.output, hb.size, fun k hk _ => hb.block k hk⟩
theorem owns_on {w w' : World} {B : Nat} {t : TypeId} {v : Value} {n : Nat} {xs : List Value} (h : w.ownsRow B t 1 v n xs) (hb : Below w.heap.size w w') : w'.ownsRow B t 1 v n xs :=
  h.kept (below_none hb) (by cases hv : v.ownBlock <;> simp)
/-- a list that the call owns is one that is read -/
theorem owns_strs {w : World} {B : Nat} {v : Value} {n : Nat} {L : List ByteArray} (h : w.ownsRow B 9 1 v n (strs L)) (hs : ∀ s ∈ L, s.size ≤ maxLen) : L.length = n ∧ ∃ a cap, v = .slice a n cap ∧ IsStrs w a n cap L := by
  have hl : L.length = n := by have := h.1; rw [strs_length] at this; omega
  refine ⟨hl, ?_⟩
  rcases h.2 with ⟨rfl, rfl⟩ | ⟨g, cap, cur, rfl, hb, hg, h1, h2, h3, h4⟩
  · obtain rfl : L = [] := List.length_eq_zero_iff.1 hl
    exact ⟨none, 0, rfl, .inl ⟨rfl, rfl, rfl, rfl⟩⟩
  · exact ⟨_, _, rfl, .inr ⟨_, rfl, h1, h2, hl, fun i s hi => ⟨h.cells rfl i _ (strs_get hi), hs s (List.mem_of_getElem? hi)⟩⟩⟩
theorem IsStrs.take {w : World} {a : Option Addr} {n cap : Nat} {L : List ByteArray} (h : IsStrs w a n cap L) (k : Nat) (hk : k ≤ n) : IsStrs w a k cap (L.take k) := by
  rcases h with ⟨rfl, rfl, rfl, rfl⟩ | ⟨x, rfl, h2, h3, h4, h5⟩
  · obtain rfl : k = 0 := by omega
    exact .inl ⟨rfl, rfl, rfl, rfl⟩
  · refine .inr ⟨x, rfl, by omega, h3, by rw [List.length_take]; omega, fun i s hi => h5 i s ?_⟩
    rw [List.getElem?_take] at hi
    split at hi
    · exact hi
    · cases hi
theorem strs_news {W : World} {x : Addr} {n cap : Nat} {L : List ByteArray} (h : IsStrs W (some x) n cap L) : ∀ j u, (strs L)[j]? = some u → W.cell? (x.add j) = some u := by
  intro j u hu
  rcases h with ⟨h, _⟩ | ⟨x', hx, _, _, _, h5⟩
  · cases h
  · obtain rfl := Option.some.inj hx
    simp only [strs, List.getElem?_map] at hu
    obtain ⟨s, hs, rfl⟩ := Option.map_eq_some_iff.1 hu
    exact (h5 j s hs).1
theorem owns_set {w : World} {B g n cap : Nat} {L : List ByteArray} (h : w.ownsRow B 9 1 (.slice (some ⟨g, 0, none⟩) n cap) n (strs L)) (q : Nat) (F : ByteArray) :
    (w.setCell ⟨g, q, none⟩ (.string F)).ownsRow B 9 1 (.slice (some ⟨g, 0, none⟩) n cap) n (strs (L.set q F)) := by
  obtain ⟨h1, h2⟩ := h
  rcases h2 with ⟨h, _⟩ | ⟨g', cap', cur, hv, hb, hg, k1, k2, k3, k4⟩
  · cases h
  · cases hv
    refine ⟨by rw [strs_length, List.length_set, ← strs_length]; exact h1, .inr ⟨g, cap, cur.setIfInBounds q (.string F), rfl, hb, setCell_row hg q _, k1, k2, by simpa using k3, ?_⟩⟩
    rw [Array.toList_setIfInBounds, List.take_set, k4, strs, strs, List.map_set]
theorem own_free {w : World} {B g n cap : Nat} {t : TypeId} {xs : List Value} (h : w.ownsRow B t 1 (.slice (some ⟨g, 0, none⟩) n cap) n xs) (q : Nat) : w.frozen? ⟨g, q, none⟩ = false := by
  rcases h.2 with ⟨h, _⟩ | ⟨g', cap', cur, hv, hb, hg, _⟩
  · cases h
  · cases hv
    exact row_free hg q
theorem own_copy {w : World} {B g n cap : Nat} {t : TypeId} {xs : List Value} (h : w.ownsRow B t 1 (.slice (some ⟨g, 0, none⟩) (0 + n) cap) (0 + n) ([] ++ xs)) : w.ownsRow B t 1 (.slice (some ⟨g, 0, none⟩) n cap) n xs := by
  rw [Nat.zero_add, List.nil_append] at h
  exact h
theorem own_cell {w : World} {B g n cap : Nat} {L : List ByteArray} (h : w.ownsRow B 9 1 (.slice (some ⟨g, 0, none⟩) n cap) n (strs L)) {q : Nat} {s : ByteArray} (hs : (strs L)[q]? = some (.string s)) : w.cell? ⟨g, q, none⟩ = some (.string s) := by
  have := h.cells (g := g) rfl q _ hs
  rwa [Addr.add_lit, Nat.zero_add] at this
/-- what the call owns: dice, and a list of strings above them -/
structure Stk (w : World) (base g : Nat) (zs : List Int) (k : Nat) (v : Value) (L : List ByteArray) : Prop where
  dice : Dice w base g zs k
  own : w.ownsRow (g + 1) 9 1 v L.length (strs L)
theorem Stk.nil {w : World} {base g : Nat} {zs : List Int} {k : Nat} (h : Dice w base g zs k) : Stk w base g zs k (.slice none 0 0) [] := ⟨h, World.ownsRow_nil w _ _ _⟩
theorem own_ne {w : World} {B g : Nat} {t : TypeId} {v : Value} {n : Nat} {xs : List Value} (h : w.ownsRow B t 1 v n xs) (hg : g < B) : v.ownBlock = none ∨ v.ownBlock ≠ some g := by
  refine .inr fun e => ?_
  have := (h.lt g e).1
  omega
theorem Stk.made {w w' : World} {base g : Nat} {zs : List Int} {k k' : Nat} {v : Value} {L : List ByteArray} (h : Stk w base g zs k v L) (hd : Dice w' base g zs k') (hg : w.grownBy w' (some g)) : Stk w' base g zs k' v L :=
  ⟨hd, h.own.kept hg (own_ne h.own (Nat.lt_succ_self g))⟩
theorem Stk.on {w w' : World} {base g : Nat} {zs : List Int} {k : Nat} {v : Value} {L : List ByteArray} (h : Stk w base g zs k v L) (hb : Below w.heap.size w w') : Stk w' base g zs k v L :=
  ⟨dice_on h.dice hb (Nat.le_refl _), owns_on h.own hb⟩
theorem Stk.al {w : World} {base g : Nat} {zs : List Int} {k : Nat} {v : Value} {L : List ByteArray} (h : Stk w base g zs k v L) (o : Obj) : Stk (w.alloc o) base g zs k v L :=
  h.on ((Below.refl _ _).alloc (Nat.le_refl _) _)
theorem dice_grow {w w' : World} {base g B : Nat} {t : TypeId} {zs : List Int} {k : Nat} {v : Value} {n : Nat} {xs : List Value} (h : Dice w base g zs k) (ho : w.ownsRow B t 1 v n xs) (hB : g < B) (hg : w.grownBy w' v.ownBlock) : Dice w' base g zs k := by
  cases hv : v.ownBlock with
  | none =>
    rw [hv] at hg
    exact dice_on h ⟨hg.os, hg.tape, hg.output, hg.size, fun i hi => hg.block i hi (by simp)⟩ (Nat.le_refl _)
  | some b =>
    rw [hv] at hg
    exact dice_far h hg (by have := (ho.lt b hv).1; omega)
theorem Stk.app {w w' : World} {base g : Nat} {zs : List Int} {k : Nat} {v v' : Value} {L : List ByteArray} {s : ByteArray} (h : Stk w base g zs k v L) (ho : w'.ownsRow (g + 1) 9 1 v' (L.length + 1) (strs L ++ [.string s])) (hg : w.grownBy w' v.ownBlock) : Stk w' base g zs k v' (L ++ [s]) :=
  ⟨dice_grow h.dice h.own (Nat.lt_succ_self g) hg, by rw [strs_app, List.length_append]; exact ho⟩
/-- what lies below stays, however the list grows -/
theorem below_grow {B : Nat} {w0 w w' : World} {C : Nat} {t : TypeId} {v : Value} {n : Nat} {xs : List Value} (hb : Below B w0 w) (ho : w.ownsRow C t 1 v n xs) (hC : B ≤ C) (hB : B ≤ w.heap.size) (hg : w.grownBy w' v.ownBlock) : Below B w0 w' :=
  hb.grown hg hB (fun k hk => by have := (ho.lt k hk).1; omega)
end Go.Proofs.Ythhggiifbldaeaa
