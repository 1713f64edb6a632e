
/- The walk of the document's Find. -/
import Derived.Test.YtigmjpkhpoolkaaEntValid
namespace Go.Proofs.Ytigmjpkhpoolkaa.Ents
open Go.RowKit Plan EntMath
/-- what Find gives -/
def findV (L : List Ent) (b : Int) : Value := .tuple #[entV ((findE L b).getD zeroE), .bool (findE L b).isSome]
theorem findV_none {L : List Ent} {b : Int} (h : findE L b = none) : findV L b = .tuple #[.agg #[.int .i64 0, .int .i64 0, .int .i64 0, .int .i64 0, .int .i64 0, .int .i64 0], .bool false] := by unfold findV; rw [h]; rfl
theorem findV_some {L : List Ent} {b : Int} {e : Ent} (h : findE L b = some e) : findV L b = .tuple #[entV e, .bool true] := by unfold findV; rw [h]; rfl
theorem find_invalid {L : List Ent} {b : Int} (h : validB L = false) : findE L b = none := by unfold findE; rw [if_neg (by rw [h]; decide)]
theorem find_at {L : List Ent} {b : Int} (h : validB L = true) {e : Ent} (he : L[place L b]? = some e) : findE L b = if e.block = b then some e else none := by
  unfold findE
  rw [if_pos h, look_place (valid_iff.1 h).2, he]
theorem find_past {L : List Ent} {b : Int} (h : validB L = true) (he : L.length ≤ place L b) : findE L b = none := by
  unfold findE
  rw [if_pos h, look_place (valid_iff.1 h).2, List.getElem?_eq_none he]
set_option maxHeartbeats 2000000 in
set_option maxRecDepth 20000 in
theorem refFind_any (F : Nat → Prop) (L : List Ent) (b : Int) (a : Option Addr) (len cap : Nat) (w : World) (hl : EList w F a len cap L) :
    Calls Try.prog 37 #[.slice a len cap, .int .i64 b] w fun r w' => r = .returned (findV L b) ∧ Below w.heap.size w w' := by
  have hlen := hl.length
  have hA := (Below.refl w.heap.size w).alloc (Nat.le_refl _) (entRow 0 0 0 0 0 0)
  have hr0 := heap_alloc_new w (entRow 0 0 0 0 0 0)
  have hv := fun W (h : Same F w W) => refValid_any F L a len cap W (hl.on h)
  have hp := fun W (h : Same F w W) => refPlace_any F L b a len cap W (hl.on h)
  have hat := fun W (h : Same F w W) i (hi : i < len) => (hl.on h).ent i hi
  have hmx : len ≤ maxLen := Nat.le_trans hl.cap.1 hl.cap.2
  unfold maxLen at hmx
  have hple := place_le L b
  have h1 := fun h => findV_none (b := b) (find_invalid (L := L) h)
  have h2 := fun h h0 => findV_none (b := b) (find_past (L := L) h h0)
  have h3 := fun h e he => find_at (L := L) (b := b) h (e := e) he
  have h4 := fun h => @findV_none L b h
  have h5 := fun e h => @findV_some L b e h
  rw [hlen] at hple h2
  generalize findV L b = V at *
  generalize findE L b = G at *
  generalize place L b = k at *
  generalize validB L = R at *
  have HV := Lib.hid hv
  have HP := Lib.hid hp
  have HAT := Lib.hid hat
  have H3 := Lib.hid h3
  have H4 := Lib.hid h4
  have H5 := Lib.hid h5
  clear hl hv hp hat h3 h4 h5
  cases R
  · have H1 := Lib.hid (h1 rfl)
    clear h1 h2 hple
    go_enter Try.func37, Try.ntmps37
    have SW0 : Same F w (w.alloc (entRow 0 0 0 0 0 0)) := Same.alloc w _
    generalize hw0 : w.alloc (entRow 0 0 0 0 0 0) = w0 at *
    go_wp2_with (first
      | (go_at_call 31; ((with_reducible refine (HV.out _ SW0).mono ?_); rintro e w1 ⟨rfl, hb1⟩; have hr1 := e_on hb1 hr0 (e_lt hr0); have b1 := hA.trans (hb1.mono hA.size)))
      | ((with_reducible refine Plan.store_lit 28 (.tmp 4) _ (w.heap.size) ?_ hr1 ?_ ?_ ?_ ?_ ?_ ?_); rotate_left; (· rfl); (· rfl); (· exact entry_info); (· rfl); (· simp [Value.oneCell']); simp only [Act.put]))
    exact bodyPost_ret (Plan.results_cell_tmp (p := 4) (q := 5) rfl _ _ _ _ _ _ _ rfl (setRow_heap _ _ _ _ _ _ hr1) Try.underlying28 rfl entry_info) rfl ⟨e_v H1.out.symm, below_setRow b1 (Nat.le_refl _) _⟩
  · clear h1
    by_cases hk : k < len
    · obtain ⟨x, e, rfl, he, -⟩ := HAT.out w (Same.refl F w) k hk
      have hge := H3.out rfl e he
      have hkI : (k : Int) < (len : Int) := by omega
      have hkN : ((k : Int) == (len : Int)) = false := by simp; omega
      have hkM : (k == len) = false := by simp; omega
      by_cases hb : e.block = b
      · rw [if_pos hb] at hge
        have H9 := Lib.hid (H5.out e hge)
        have hc := fun W (h : Same F w W) => (show EntAt W x k e from by
          obtain ⟨x', e', hx', he', h'⟩ := HAT.out W h k hk
          obtain rfl := Option.some.inj hx'
          rw [he] at he'
          obtain rfl := Option.some.inj he'
          exact h')
        obtain ⟨eb, ek, ev, em, ez, eo⟩ := e
        try simp only at hb H9 hc
        subst hb
        have HC := Lib.hid hc
        clear h2 hple hge he hc
        go_enter Try.func37, Try.ntmps37
        have SW0 : Same F w (w.alloc (entRow 0 0 0 0 0 0)) := Same.alloc w _
        generalize hw0 : w.alloc (entRow 0 0 0 0 0 0) = w0 at *
        go_wp2_with (first
          | (go_at_call 31; ((with_reducible refine (HV.out _ SW0).mono ?_); rintro e w1 ⟨rfl, hb1⟩; have hr1 := e_on hb1 hr0 (e_lt hr0); have b1 := hA.trans (hb1.mono hA.size)))
          | (go_at_call 36; ((with_reducible refine (HP.out _ (SW0.trans (Same.below hb1))).mono ?_); rintro e w2 ⟨rfl, hb2⟩; have hr2 := e_on hb2 hr1 (e_lt hr1); have b2 := b1.trans (hb2.mono b1.size); obtain ⟨c0, c1, c2, c3, c4, c5⟩ := HC.out _ ((SW0.trans (Same.below hb1)).trans (Same.below hb2))))
          | ((with_reducible refine Plan.store_lit 28 (.tmp 4) _ (w.heap.size) ?_ hr2 ?_ ?_ ?_ ?_ ?_ ?_); rotate_left; (· rfl); (· rfl); (· exact entry_info); (· rfl); (· simp [Value.oneCell']); simp only [Act.put]))
        exact bodyPost_ret (Plan.results_cell_tmp (p := 4) (q := 5) rfl _ _ _ _ _ _ _ rfl (setRow_heap _ _ _ _ _ _ hr2) Try.underlying28 rfl entry_info) rfl ⟨e_v H9.out.symm, below_setRow b2 (Nat.le_refl _) _⟩
      · rw [if_neg hb] at hge
        have H9 := Lib.hid (H4.out hge)
        have hc := fun W (h : Same F w W) => (show EntAt W x k e from by
          obtain ⟨x', e', hx', he', h'⟩ := HAT.out W h k hk
          obtain rfl := Option.some.inj hx'
          rw [he] at he'
          obtain rfl := Option.some.inj he'
          exact h')
        obtain ⟨eb, ek, ev, em, ez, eo⟩ := e
        try simp only at hb H9 hc
        have hbb : (eb != b) = true := by simpa using hb
        have HC := Lib.hid hc
        clear h2 hple hge he hc hb
        go_enter Try.func37, Try.ntmps37
        have SW0 : Same F w (w.alloc (entRow 0 0 0 0 0 0)) := Same.alloc w _
        generalize hw0 : w.alloc (entRow 0 0 0 0 0 0) = w0 at *
        go_wp2_with (first
          | (go_at_call 31; ((with_reducible refine (HV.out _ SW0).mono ?_); rintro e w1 ⟨rfl, hb1⟩; have hr1 := e_on hb1 hr0 (e_lt hr0); have b1 := hA.trans (hb1.mono hA.size)))
          | (go_at_call 36; ((with_reducible refine (HP.out _ (SW0.trans (Same.below hb1))).mono ?_); rintro e w2 ⟨rfl, hb2⟩; have hr2 := e_on hb2 hr1 (e_lt hr1); have b2 := b1.trans (hb2.mono b1.size); obtain ⟨c0, c1, c2, c3, c4, c5⟩ := HC.out _ ((SW0.trans (Same.below hb1)).trans (Same.below hb2))))
          | ((with_reducible refine Plan.store_lit 28 (.tmp 4) _ (w.heap.size) ?_ hr2 ?_ ?_ ?_ ?_ ?_ ?_); rotate_left; (· rfl); (· rfl); (· exact entry_info); (· rfl); (· simp [Value.oneCell']); simp only [Act.put]))
        exact bodyPost_ret (Plan.results_cell_tmp (p := 4) (q := 5) rfl _ _ _ _ _ _ _ rfl (setRow_heap _ _ _ _ _ _ hr2) Try.underlying28 rfl entry_info) rfl ⟨e_v H9.out.symm, below_setRow b2 (Nat.le_refl _) _⟩
    · obtain rfl : k = len := by omega
      have H9 := Lib.hid (h2 rfl (Nat.le_refl _))
      clear h2 hple
      go_enter Try.func37, Try.ntmps37
      have SW0 : Same F w (w.alloc (entRow 0 0 0 0 0 0)) := Same.alloc w _
      generalize hw0 : w.alloc (entRow 0 0 0 0 0 0) = w0 at *
      go_wp2_with (first
        | (go_at_call 31; ((with_reducible refine (HV.out _ SW0).mono ?_); rintro e w1 ⟨rfl, hb1⟩; have hr1 := e_on hb1 hr0 (e_lt hr0); have b1 := hA.trans (hb1.mono hA.size)))
        | (go_at_call 36; ((with_reducible refine (HP.out _ (SW0.trans (Same.below hb1))).mono ?_); rintro e w2 ⟨rfl, hb2⟩; have hr2 := e_on hb2 hr1 (e_lt hr1); have b2 := b1.trans (hb2.mono b1.size)))
        | ((with_reducible refine Plan.store_lit 28 (.tmp 4) _ (w.heap.size) ?_ hr2 ?_ ?_ ?_ ?_ ?_ ?_); rotate_left; (· rfl); (· rfl); (· exact entry_info); (· rfl); (· simp [Value.oneCell']); simp only [Act.put]))
      exact bodyPost_ret (Plan.results_cell_tmp (p := 4) (q := 5) rfl _ _ _ _ _ _ _ rfl (setRow_heap _ _ _ _ _ _ hr2) Try.underlying28 rfl entry_info) rfl ⟨e_v H9.out.symm, below_setRow b2 (Nat.le_refl _) _⟩
end Go.Proofs.Ytigmjpkhpoolkaa.Ents
