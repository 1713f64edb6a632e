/- Texts that belong together, part 6. -/
import Derived.Test.YtljobnfilnbefaaPack5
import Derived.Deep.OwnRows

/- The walks of the document's New and Lookup of a map. -/
namespace Go.Proofs.Ytljobnfilnbefaa.Ents
open Go.RowKit Plan EntMath
def newM (s : Int) : List (List Ent) := if 1 ≤ s ∧ s ≤ 8 then List.replicate s.toNat [] else []
def newME (s : Int) : Int := if 1 ≤ s ∧ s ≤ 8 then 0 else 1
theorem sl_row : (Try.prog.info? 49).map (fun i => (i.zero, i.size, i.bytes)) = some (some (.slice none 0 0), 1, 24) := sl_info
set_option maxHeartbeats 2000000 in
set_option maxRecDepth 20000 in
theorem refNewM_any (s : Int) (w : World) : Calls Try.prog 14 #[.int .i64 s] w fun r w' => ∃ a n c, r = .returned (.tuple #[mapV a n c, .int .i64 (newME s)]) ∧ MList w' (fun b => w.heap.size ≤ b) a n c (newM s) ∧ Below w.heap.size w w' := by
  have hA := (Below.refl w.heap.size w).alloc (Nat.le_refl _) (mapRow none 0 0)
  have hr0 := heap_alloc_new w (mapRow none 0 0)
  by_cases hs : 1 ≤ s ∧ s ≤ 8
  · have h1 : newM s = List.replicate s.toNat [] := if_pos hs
    have h2 : newME s = 0 := if_pos hs
    obtain ⟨n, rfl⟩ : ∃ n : Nat, s = (n : Int) := ⟨s.toNat, by omega⟩
    rw [Int.toNat_natCast] at h1
    have hmk := fun w => run_make_row' (P := Try.prog) 22 49 (.slice none 0 0) 24 Try.underlying22 sl_row rfl .i64 .i64 n (by omega) (by omega) w
    have hg1 : decide ((n : Int) < 1) = false := by simp; omega
    have hg2 : decide ((8 : Int) < (n : Int)) = false := by simp; omega
    have hg3 : ¬ (n : Int) < 1 := by omega
    have hg4 : ¬ (8 : Int) < (n : Int) := by omega
    have hg5 : decide (8 < n) = false := by simp; omega
    have hr1 := e_al hr0 (.cells (madeCells #[(.slice none 0 0 : Value)] n) 49)
    have hB := hA.alloc hA.size (.cells (madeCells #[(.slice none 0 0 : Value)] n) 49)
    have hrow := World.rowIs_made (w.alloc (mapRow none 0 0)) (.slice none 0 0) n 49
    rw [World.size_alloc] at hrow
    have HROW := Lib.hid hrow
    have H1 := Lib.hid h1
    have H2 := Lib.hid h2
    clear hrow h1 h2
    go_enter Try.func14, Try.ntmps14
    go_wp2_with (first
      | ((with_reducible refine Plan.store_lit 24 (.tmp 2) _ w.heap.size ?_ hr1 ?_ ?_ ?_ ?_ ?_ ?_); rotate_left; (· rfl); (· rfl); (· exact map_info); (· rfl); (· simp [Value.oneCell']); simp only [Act.put]))
    refine bodyPost_ret (Plan.results_cell_tmp (p := 2) (q := 3) rfl _ _ _ _ _ _ _ rfl (setRow_heap _ _ _ _ _ _ hr1) Try.underlying24 rfl map_info) rfl ⟨_, _, _, by rw [H2.out]; rfl, ?_, below_setRow hB (Nat.le_refl _) _⟩
    rw [H1.out]
    have hn : n ≤ maxLen := by unfold maxLen; omega
    have hR := HROW.out.of_block (setRow_other ((w.alloc (mapRow none 0 0)).alloc (.cells (madeCells #[(.slice none 0 0 : Value)] n) 49)) w.heap.size (w.heap.size + 1) #[.slice (some ⟨w.heap.size + 1, 0, none⟩) n n] (by omega))
    refine .inr ⟨_, rfl, Nat.le_refl _, hn, by simp, hR.lt, by show w.heap.size ≤ w.heap.size + 1; omega, fun i L hi => ?_⟩
    have hin := (List.getElem?_eq_some_iff.1 hi).1
    rw [List.length_replicate] at hin
    rw [List.getElem?_replicate, if_pos hin] at hi
    obtain rfl := Option.some.inj hi
    exact ⟨none, 0, 0, by rw [Addr.add_lit, Nat.zero_add]; exact hR.cell hin, EList.nil _ _⟩
  · have h1 : newM s = [] := if_neg hs
    have h2 : newME s = 1 := if_neg hs
    have H1 := Lib.hid h1
    have H2 := Lib.hid h2
    clear h1 h2
    rcases (show s < 1 ∨ 8 < s by omega) with h | h
    · go_enter Try.func14, Try.ntmps14
      go_wp2_with (first
        | ((with_reducible refine Plan.store_lit 24 (.tmp 2) _ w.heap.size ?_ hr0 ?_ ?_ ?_ ?_ ?_ ?_); rotate_left; (· rfl); (· rfl); (· exact map_info); (· rfl); (· simp [Value.oneCell']); simp only [Act.put]))
      exact bodyPost_ret (Plan.results_cell_tmp (p := 2) (q := 3) rfl _ _ _ _ _ _ _ rfl (setRow_heap _ _ _ _ _ _ hr0) Try.underlying24 rfl map_info) rfl ⟨_, _, _, by rw [H2.out]; rfl, by rw [H1.out]; exact MList.nil _ _, below_setRow hA (Nat.le_refl _) _⟩
    · have h3 : ¬ s < 1 := by omega
      go_enter Try.func14, Try.ntmps14
      go_wp2_with (first
        | ((with_reducible refine Plan.store_lit 24 (.tmp 2) _ w.heap.size ?_ hr0 ?_ ?_ ?_ ?_ ?_ ?_); rotate_left; (· rfl); (· rfl); (· exact map_info); (· rfl); (· simp [Value.oneCell']); simp only [Act.put]))
      exact bodyPost_ret (Plan.results_cell_tmp (p := 2) (q := 3) rfl _ _ _ _ _ _ _ rfl (setRow_heap _ _ _ _ _ _ hr0) Try.underlying24 rfl map_info) rfl ⟨_, _, _, by rw [H2.out]; rfl, by rw [H1.out]; exact MList.nil _ _, below_setRow hA (Nat.le_refl _) _⟩
/-- what Lookup gives -/
def lookV (Ls : List (List Ent)) (b : Int) : Value := .tuple #[entV ((lookM Ls b).getD zeroE), .bool (lookM Ls b).isSome]
theorem lookV_no {Ls : List (List Ent)} {b : Int} (h : ¬ (validM Ls = true ∧ 0 ≤ b)) : lookV Ls b = .tuple #[.agg #[.int .i64 0, .int .i64 0, .int .i64 0, .int .i64 0, .int .i64 0, .int .i64 0], .bool false] := by
  unfold lookV lookM
  rw [if_neg h]
  rfl
theorem lookV_find {Ls : List (List Ent)} {b : Int} (h : validM Ls = true) (hb : 0 ≤ b) : lookV Ls b = findV (shardOf Ls b) b := by
  unfold lookV lookM findV
  rw [if_pos ⟨h, hb⟩, find_look (shard_valid h b)]
set_option maxHeartbeats 4000000 in
set_option maxRecDepth 20000 in
theorem refLookupM_any (F : Nat → Prop) (Ls : List (List Ent)) (b : Int) (a : Option Addr) (n c : Nat) (w : World) (hl : MList w F a n c Ls) :
    Calls Try.prog 18 #[mapV a n c, .int .i64 b] w fun r w' => r = .returned (lookV Ls b) ∧ Below w.heap.size w w' := by
  have hlen := hl.length
  have hA := ((Below.refl w.heap.size w).alloc (Nat.le_refl _) (mapRow a n c)).alloc (by simp) (entRow 0 0 0 0 0 0)
  have hr0 := heap_second w (mapRow a n c) (entRow 0 0 0 0 0 0)
  have hx0 := heap_first w (mapRow a n c) (entRow 0 0 0 0 0 0)
  have HV := Lib.hid (fun W (h : Below w.heap.size w W) => refValidM_any _ Ls a n c W (hl.same h))
  cases hva : validM Ls
  · have H1 := Lib.hid (lookV_no (Ls := Ls) (b := b) (fun h => by rw [hva] at h; cases h.1))
    rw [hva] at HV
    clear hva hl
    generalize lookV Ls b = V at *
    go_enter Try.func18, Try.ntmps18
    have hc0 := map_row hx0
    generalize hw0 : (w.alloc (mapRow a n c)).alloc (entRow 0 0 0 0 0 0) = w0 at *
    go_wp2_with (first
      | (go_at_call 28; ((with_reducible refine (HV.out _ hA).mono ?_); rintro e w1 ⟨rfl, hb1⟩; have hr1 := e_on hb1 hr0 (e_lt hr0); have hx1 := e_on hb1 hx0 (e_lt hx0); have b1 := hA.trans (hb1.mono hA.size)))
      | ((with_reducible refine Plan.store_lit 28 (.tmp 4) _ (w.heap.size + 1) ?_ hr1 ?_ ?_ ?_ ?_ ?_ ?_); rotate_left; (· rfl); (· rfl); (· exact entry_info); (· rfl); (· simp [Value.oneCell']); simp only [Act.put]))
    exact bodyPost_ret (Plan.results_cell_tmp (p := 4) (q := 5) rfl _ _ _ _ _ _ _ rfl (setRow_heap _ _ _ _ _ _ hr1) Try.underlying28 rfl entry_info) rfl ⟨e_v H1.out.symm, below_setRow b1 (show w.heap.size ≤ w.heap.size + 1 by omega) _⟩
  · rw [hva] at HV
    by_cases hb : b < 0
    · have H1 := Lib.hid (lookV_no (Ls := Ls) (b := b) (fun h => by omega))
      clear hva hl
      generalize lookV Ls b = V at *
      go_enter Try.func18, Try.ntmps18
      have hc0 := map_row hx0
      generalize hw0 : (w.alloc (mapRow a n c)).alloc (entRow 0 0 0 0 0 0) = w0 at *
      go_wp2_with (first
        | (go_at_call 28; ((with_reducible refine (HV.out _ hA).mono ?_); rintro e w1 ⟨rfl, hb1⟩; have hr1 := e_on hb1 hr0 (e_lt hr0); have hx1 := e_on hb1 hx0 (e_lt hx0); have b1 := hA.trans (hb1.mono hA.size)))
        | ((with_reducible refine Plan.store_lit 28 (.tmp 4) _ (w.heap.size + 1) ?_ hr1 ?_ ?_ ?_ ?_ ?_ ?_); rotate_left; (· rfl); (· rfl); (· exact entry_info); (· rfl); (· simp [Value.oneCell']); simp only [Act.put]))
      exact bodyPost_ret (Plan.results_cell_tmp (p := 4) (q := 5) rfl _ _ _ _ _ _ _ rfl (setRow_heap _ _ _ _ _ _ hr1) Try.underlying28 rfl entry_info) rfl ⟨e_v H1.out.symm, below_setRow b1 (show w.heap.size ≤ w.heap.size + 1 by omega) _⟩
    · have h0 : 0 ≤ b := by omega
      rw [lookV_find hva h0]
      have hst := st_lt hva b
      rw [hlen] at hst
      have hat := shard_at hva b
      obtain ⟨x, L, b', m, kk, rfl, hL, hcc, hle⟩ := hl.at' (st Ls b) hst
      rw [hat] at hL
      obtain rfl := Option.some.inj hL
      have HPIN := Lib.hid (pin hcc hle)
      have hxlt : x.block < w.heap.size := by
        have := World.block_lt_of_cell? w _ hcc
        rwa [ent_add_block] at this
      have HS := Lib.hid (fun W => refStripe_any Ls b (some x) n c W hlen)
      rw [stripe_eq hva h0] at HS
      have HFI := Lib.hid (fun W (h : Below w.heap.size w W) => refFind_any _ (shardOf Ls b) b b' m kk W (HPIN.out W h).2)
      unfold findV at HFI ⊢
      generalize (findE (shardOf Ls b) b).isSome = IS at *
      generalize (findE (shardOf Ls b) b).getD zeroE = Y at *
      obtain ⟨yb, yk, yv, ym, yz, yo⟩ := Y
      try simp only at HFI
      generalize st Ls b = k at *
      have hkI : (k : Int) < (n : Int) := by omega
      have hbd : decide (b < 0) = false := by simpa using hb
      clear hva hl hat hcc hle
      generalize hbb : b' = b'' at *
      clear hbb
      go_enter Try.func18, Try.ntmps18
      have hc0 := map_row hx0
      generalize hw0 : (w.alloc (mapRow (some x) n c)).alloc (entRow 0 0 0 0 0 0) = w0 at *
      go_wp2_with (first
        | (go_at_call 28; ((with_reducible refine (HV.out _ hA).mono ?_); rintro e w1 ⟨rfl, hb1⟩; have hr1 := e_on hb1 hr0 (e_lt hr0); have hx1 := e_on hb1 hx0 (e_lt hx0); have b1 := hA.trans (hb1.mono hA.size))))
      have hcx := (HPIN.out _ b1).1
      refine Plan.start (fun W => W.cell? ⟨w.heap.size, 0, none⟩ = some (.slice (some x) n c) ∧ W.cell? (x.add k) = some (.slice b'' m kk)) [(0, true), (1, true), (2, true), (3, true), (7, true), (4, false), (5, true), (6, true), (8, false), (9, true), (10, true), (11, false), (12, true)] (by kernel_rfl) (by kernel_rfl) (by kernel_rfl) (by kernel_rfl) ⟨map_row hx1, hcx⟩ ?_
      simp only [List.map_cons, List.map_nil, List.getElem?_toArray, List.getElem?_cons_zero, List.getElem?_cons_succ]
      repeat (first | (refine Plan.take ?_ (by rfl) ?_ ?_; rotate_left; (· rintro w9 ⟨u0, u1⟩; go_simp; (try rw [if_neg (by omega)]); all_goals (with_reducible rfl)); simp only [Act.put, List.setIfInBounds_toArray, List.set_cons_zero, List.set_cons_succ]) | (refine Plan.pass (by rfl) ?_; simp only [Act.put, List.setIfInBounds_toArray, List.set_cons_zero, List.set_cons_succ]))
      refine Plan.call (by rfl) 30 _ ?_ (HS.out _) ?_
      · go_simp
      rintro e9 w2 ⟨rfl, hb2⟩
      have b1' := b1.drew
      have hx2 := e_on hb2 (show w1.drew.heap[w.heap.size]? = _ from hx1) (e_lt hx1)
      have hr2 := e_on hb2 (show w1.drew.heap[w.heap.size + 1]? = _ from hr1) (e_lt hr1)
      have b2 := b1'.trans (hb2.mono b1'.size)
      have hc2 := (HPIN.out _ b2).1
      refine ⟨_, rfl, ⟨map_row hx2, hc2⟩, ?_⟩
      simp only [Act.put, List.setIfInBounds_toArray, List.set_cons_zero, List.set_cons_succ]
      repeat (first | (refine Plan.take ?_ (by rfl) ?_ ?_; rotate_left; (· rintro w9 ⟨u0, u1⟩; go_simp; (try rw [if_neg (by omega)]); all_goals (with_reducible rfl)); simp only [Act.put, List.setIfInBounds_toArray, List.set_cons_zero, List.set_cons_succ]) | (refine Plan.pass (by rfl) ?_; simp only [Act.put, List.setIfInBounds_toArray, List.set_cons_zero, List.set_cons_succ]))
      refine Plan.call (by rfl) 35 _ ?_ (HFI.out _ b2) ?_
      · go_simp
      rintro e9 w3 ⟨rfl, hb3⟩
      have hx3 := e_on hb3 hx2 (e_lt hx2)
      have hr3 := e_on hb3 hr2 (e_lt hr2)
      have b3 := b2.trans (hb3.mono b2.size)
      have hc3 := (HPIN.out _ b3).1
      refine ⟨_, rfl, ⟨map_row hx3, hc3⟩, ?_⟩
      simp only [Act.put, List.setIfInBounds_toArray, List.set_cons_zero, List.set_cons_succ]
      repeat (first | (refine Plan.take ?_ (by rfl) ?_ ?_; rotate_left; (· rintro w9 ⟨u0, u1⟩; go_simp; (try rw [if_neg (by omega)]); all_goals (with_reducible rfl)); simp only [Act.put, List.setIfInBounds_toArray, List.set_cons_zero, List.set_cons_succ]) | (refine Plan.pass (by rfl) ?_; simp only [Act.put, List.setIfInBounds_toArray, List.set_cons_zero, List.set_cons_succ]))
      refine Plan.store (by rfl) 28 (.tmp 4) (.tmp 23) rfl (w.heap.size + 1) #[.int .i64 yb, .int .i64 yk, .int .i64 yv, .int .i64 ym, .int .i64 yz, .int .i64 yo] rfl rfl 28 _ hr3 entry_info rfl (by simp [Value.oneCell']) ⟨map_row ((setRow_other _ (w.heap.size + 1) w.heap.size _ (by omega)).trans hx3), (Same.row (F := fun b => b < w.heap.size) (r := w.heap.size + 1) (by omega) _).cell (x := x.add k) (by rw [ent_add_block]; exact hxlt) hc3⟩ ?_
      simp only [Act.put]
      repeat (first | (refine Plan.take ?_ (by rfl) ?_ ?_; rotate_left; (· rintro w9 ⟨u0, u1⟩; go_simp; (try rw [if_neg (by omega)]); all_goals (with_reducible rfl)); simp only [Act.put, List.setIfInBounds_toArray, List.set_cons_zero, List.set_cons_succ]) | (refine Plan.pass (by rfl) ?_; simp only [Act.put, List.setIfInBounds_toArray, List.set_cons_zero, List.set_cons_succ]))
      refine Plan.ends ?_
      clear hc0 hcx hc2 hc3 hx1 hx2 hx3 hr1 hr2
      go_wp2_with fail
      exact bodyPost_ret (Plan.results_cell_tmp (p := 4) (q := 5) rfl _ _ _ _ _ _ _ rfl (setRow_heap _ _ _ _ _ _ hr3) Try.underlying28 rfl entry_info) rfl ⟨e_v rfl, below_setRow b3 (show w.heap.size ≤ w.heap.size + 1 by omega) _⟩
end Go.Proofs.Ytljobnfilnbefaa.Ents

/- The walk of the document's Same of two maps, where they are. -/
namespace Go.Proofs.Ytljobnfilnbefaa.Ents
open Go.RowKit Plan EntMath
set_option maxHeartbeats 2000000 in
set_option maxRecDepth 20000 in
theorem refSameM_any (F G : Nat → Prop) (Ls : List (List Ent)) (a a' : Option Addr) (n c n' c' : Nat) (w : World) (hl : MList w F a n c Ls) (hm : MList w G a' n' c' Ls) :
    Calls Try.prog 15 #[mapV a n c, mapV a' n' c'] w fun r w' => r = .returned (.bool true) ∧ Below w.heap.size w w' := by
  have hlen := hl.length
  obtain rfl : n = n' := hlen.symm.trans hm.length
  have hcp := hl.cap
  unfold maxLen at hcp
  have hA := ((Below.refl w.heap.size w).alloc (Nat.le_refl _) (mapRow a n c)).alloc (by simp) (mapRow a' n c')
  have hr0 := heap_second w (mapRow a n c) (mapRow a' n c')
  have hx0 := heap_first w (mapRow a n c) (mapRow a' n c')
  have HAT := Lib.hid (fun W (h : Below w.heap.size w W) i (hi : i < n) => (hl.same h).at' i hi)
  have HAT2 := Lib.hid (fun W (h : Below w.heap.size w W) i (hi : i < n) => (hm.same h).at' i hi)
  have hcr1 := map_row hx0
  have hcr2 := map_row hr0
  clear hl hm
  go_enter Try.func15, Try.ntmps15
  generalize hw0 : (w.alloc (mapRow a n c)).alloc (mapRow a' n c') = w0 at *
  go_wp2_with fail
  clear hcr1 hcr2
  go_loopw [5] (fun x wr => ∃ i : Nat, x = .int .i64 (i : Int) ∧ i ≤ n ∧ wr.heap[w.heap.size]? = some (mapRow a n c) ∧ wr.heap[w.heap.size + 1]? = some (mapRow a' n c') ∧ Below w.heap.size w wr) (fun x _ => n - (intOf x).toNat)
  case atStart => exact ⟨0, rfl, by omega, hx0, hr0, hA⟩
  case round =>
    clear hx0 hr0 hA
    obtain ⟨i, rfl, hi, hx, hr, hb⟩ := hrel
    have hcr1 := map_row hx
    have hcr2 := map_row hr
    by_cases hlt : i < n
    · obtain ⟨x, L, b, m, k, rfl, hL, hc, hle⟩ := HAT.out wr hb i hlt
      obtain ⟨x', L', b', m', k', rfl, hL', hc', hle'⟩ := HAT2.out wr hb i hlt
      rw [hL] at hL'
      obtain rfl := Option.some.inj hL'
      have HS := Lib.hid (refSame_any _ _ L b b' m k k' m' wr.drew (hle.on ⟨Nat.le_refl _, fun _ _ _ => rfl⟩) (hle'.on ⟨Nat.le_refl _, fun _ _ _ => rfl⟩))
      have hiI : (i : Int) < (n : Int) := by omega
      clear hL hL'
      go_wp2_with fail
      refine Plan.start (fun W => W.cell? ⟨w.heap.size, 0, none⟩ = some (.slice (some x) n c) ∧ W.cell? ⟨w.heap.size + 1, 0, none⟩ = some (.slice (some x') n c') ∧ W.cell? (x.add i) = some (.slice b m k) ∧ W.cell? (x'.add i) = some (.slice b' m' k')) [(0, true), (1, true), (2, true), (3, true), (4, true), (5, true), (6, true), (7, true), (8, true), (9, true), (10, false), (11, true)] (by kernel_rfl) (by kernel_rfl) (by kernel_rfl) (by kernel_rfl) ⟨hcr1, hcr2, hc, hc'⟩ ?_
      simp only [List.map_cons, List.map_nil, List.getElem?_toArray, List.getElem?_cons_zero, List.getElem?_cons_succ]
      repeat (first | (refine Plan.take ?_ (by rfl) ?_ ?_; rotate_left; (· rintro w9 ⟨u0, u1, u2, u3⟩; go_simp; (try rw [if_neg (by omega)]); all_goals (with_reducible rfl)); simp only [Act.put, List.setIfInBounds_toArray, List.set_cons_zero, List.set_cons_succ]) | (refine Plan.pass (by rfl) ?_; simp only [Act.put, List.setIfInBounds_toArray, List.set_cons_zero, List.set_cons_succ]))
      refine Plan.call (by rfl) 25 _ ?_ HS.out ?_
      · go_simp
      rintro e9 w2 ⟨rfl, hb2⟩
      have bd := hb.drew
      have hx2 := e_on hb2 (show wr.drew.heap[w.heap.size]? = _ from hx) (e_lt hx)
      have hr2 := e_on hb2 (show wr.drew.heap[w.heap.size + 1]? = _ from hr) (e_lt hr)
      have b2 := bd.trans (hb2.mono bd.size)
      have hc2 := (hb2.cell (World.block_lt_of_cell? wr.drew _ (show wr.drew.cell? (x.add i) = _ from hc))).trans (show wr.drew.cell? (x.add i) = _ from hc)
      have hc2' := (hb2.cell (World.block_lt_of_cell? wr.drew _ (show wr.drew.cell? (x'.add i) = _ from hc'))).trans (show wr.drew.cell? (x'.add i) = _ from hc')
      refine ⟨_, rfl, ⟨map_row hx2, map_row hr2, hc2, hc2'⟩, ?_⟩
      simp only [Act.put, List.setIfInBounds_toArray, List.set_cons_zero, List.set_cons_succ]
      repeat (first | (refine Plan.take ?_ (by rfl) ?_ ?_; rotate_left; (· rintro w9 ⟨u0, u1, u2, u3⟩; go_simp; (try rw [if_neg (by omega)]); all_goals (with_reducible rfl)); simp only [Act.put, List.setIfInBounds_toArray, List.set_cons_zero, List.set_cons_succ]) | (refine Plan.pass (by rfl) ?_; simp only [Act.put, List.setIfInBounds_toArray, List.set_cons_zero, List.set_cons_succ]))
      refine Plan.ends ?_
      clear hcr1 hcr2 hc hc' hc2 hc2'
      go_wp2_with fail
      go_roundw
      case rel => exact ⟨i + 1, by go_num, by omega, hx2, hr2, b2⟩
      case measure => simp [intOf]; omega
    · obtain rfl : i = n := by omega
      go_wp2_with fail
      go_ret
      exact ⟨rfl, hb⟩
end Go.Proofs.Ytljobnfilnbefaa.Ents

/- The walk of the document's Drop of a map. -/
namespace Go.Proofs.Ytljobnfilnbefaa.Ents
open Go.RowKit Plan EntMath
/-- what Drop leaves -/
def DropMPost (w : World) (F : Nat → Prop) (Ls : List (List Ent)) (G : List Ent) (r : Ending) (w' : World) : Prop :=
  ∃ a n c b m d, r = .returned (.tuple #[mapV a n c, .slice b m d]) ∧ MList w' (Plus F w.heap.size) a n c Ls ∧ EList w' (Plus F w.heap.size) b m d G ∧ Below w.heap.size w w'
theorem dropM_no {Ls : List (List Ent)} {i cut : Int} (h : ¬ (validM Ls = true ∧ 0 ≤ i ∧ i < (Ls.length : Int))) : dropM Ls i cut = Ls ∧ goneM Ls i cut = [] := by
  have h1 : goneM Ls i cut = [] := by unfold goneM; rw [if_neg h]
  exact ⟨by unfold dropM; rw [if_pos h1], h1⟩
theorem dropM_at {Ls : List (List Ent)} {k : Nat} {cut : Int} {L : List Ent} (h : validM Ls = true) (hL : Ls[k]? = some L) : goneM Ls (k : Int) cut = goneL L cut ∧ dropM Ls (k : Int) cut = if goneL L cut = [] then Ls else Ls.set k (stayL L cut) := by
  have hk := (List.getElem?_eq_some_iff.1 hL).1
  have h1 : goneM Ls (k : Int) cut = goneL L cut := by
    unfold goneM
    rw [if_pos ⟨h, by omega, by omega⟩, Int.toNat_natCast, getD_of hL]
  refine ⟨h1, ?_⟩
  unfold dropM
  rw [h1, Int.toNat_natCast, getD_of hL]
theorem pinF {wr : World} {F : Nat → Prop} {x : Addr} {i m k : Nat} {b : Option Addr} {L : List Ent} (hc : wr.cell? (x.add i) = some (.slice b m k)) (hle : EList wr F b m k L) (W : World) (h : Below wr.heap.size wr W) : W.cell? (x.add i) = some (.slice b m k) ∧ EList W (fun b => F b ∧ b < wr.heap.size) b m k L :=
  ⟨(h.cell (World.block_lt_of_cell? wr _ hc)).trans hc, hle.cut.on (Same.below h)⟩
theorem gone_len {G : List Ent} (h : G ≠ []) (m : Nat) (hm : G.length = m) : ((m : Int) == 0) = false ∧ (m == 0) = false := by
  have : m ≠ 0 := fun e => h (List.length_eq_zero_iff.1 (hm.trans e))
  constructor
  · simp; omega
  · simpa using this
set_option maxHeartbeats 4000000 in
set_option maxRecDepth 20000 in
theorem refDropM_any (F : Nat → Prop) (Ls : List (List Ent)) (i cut : Int) (a : Option Addr) (n c : Nat) (w : World) (hl : MList w F a n c Ls) (hm : Ls.length ≤ 8 → ∀ L ∈ Ls, L.length ≤ 900000) :
    Calls Try.prog 33 #[mapV a n c, .int .i64 i, .int .i64 cut] w (DropMPost w F (dropM Ls i cut) (goneM Ls i cut)) := by
  have hlen := hl.length
  have hA := ((Below.refl w.heap.size w).alloc (Nat.le_refl _) (mapRow a n c)).alloc (by simp) (mapRow none 0 0)
  have hr0 := heap_second w (mapRow a n c) (mapRow none 0 0)
  have hx0 := heap_first w (mapRow a n c) (mapRow none 0 0)
  have HV := Lib.hid (fun W (h : Below w.heap.size w W) => refValidM_any _ Ls a n c W (hl.same h))
  have HEND := Lib.hid (fun W (h : Below w.heap.size w W) (cs : Array Value) => (show MList (W.setRow (w.heap.size + 1) cs) (Plus F w.heap.size) a n c Ls from
    ((hl.cut.on (Same.below (w' := W) h)).on (Same.row (r := w.heap.size + 1) (fun h9 => by have := h9.2; omega) cs)).mono (fun b _ h => .inl h.1)))
  cases hva : validM Ls
  · obtain ⟨r1, r2⟩ := dropM_no (Ls := Ls) (i := i) (cut := cut) (fun h => by rw [hva] at h; cases h.1)
    rw [r1, r2]
    rw [hva] at HV
    clear hva hl r1 r2
    go_enter Try.func33, Try.ntmps33
    have hc0 := map_row hx0
    generalize hw0 : (w.alloc (mapRow a n c)).alloc (mapRow none 0 0) = w0 at *
    go_wp2_with (first
      | (go_at_call 28; ((with_reducible refine (HV.out _ hA).mono ?_); rintro e w1 ⟨rfl, hb1⟩; have hr1 := e_on hb1 hr0 (e_lt hr0); have hx1 := e_on hb1 hx0 (e_lt hx0); have hc1 := map_row hx1; clear hc0; have b1 := hA.trans (hb1.mono hA.size)))
      | ((with_reducible refine Plan.store_lit 24 (.tmp 6) _ (w.heap.size + 1) ?_ hr1 ?_ ?_ ?_ ?_ ?_ ?_); rotate_left; (· rfl); (· rfl); (· exact map_info); (· rfl); (· simp [Value.oneCell']); simp only [Act.put]))
    exact bodyPost_ret (Plan.results_cell_tmp (p := 6) (q := 7) rfl _ _ _ _ _ _ _ rfl (setRow_heap _ _ _ _ _ _ hr1) Try.underlying24 rfl map_info) rfl ⟨_, _, _, _, _, _, rfl, HEND.out _ b1 _, EList.nil _ _, below_setRow b1 (show w.heap.size ≤ w.heap.size + 1 by omega) _⟩
  · rw [hva] at HV
    have hv8 := (validM_iff.1 hva).1
    by_cases hi : i < 0
    · obtain ⟨r1, r2⟩ := dropM_no (Ls := Ls) (i := i) (cut := cut) (fun h => by omega)
      rw [r1, r2]
      clear hva hl r1 r2
      go_enter Try.func33, Try.ntmps33
      have hc0 := map_row hx0
      generalize hw0 : (w.alloc (mapRow a n c)).alloc (mapRow none 0 0) = w0 at *
      go_wp2_with (first
        | (go_at_call 28; ((with_reducible refine (HV.out _ hA).mono ?_); rintro e w1 ⟨rfl, hb1⟩; have hr1 := e_on hb1 hr0 (e_lt hr0); have hx1 := e_on hb1 hx0 (e_lt hx0); have hc1 := map_row hx1; clear hc0; have b1 := hA.trans (hb1.mono hA.size)))
        | ((with_reducible refine Plan.store_lit 24 (.tmp 6) _ (w.heap.size + 1) ?_ hr1 ?_ ?_ ?_ ?_ ?_ ?_); rotate_left; (· rfl); (· rfl); (· exact map_info); (· rfl); (· simp [Value.oneCell']); simp only [Act.put]))
      exact bodyPost_ret (Plan.results_cell_tmp (p := 6) (q := 7) rfl _ _ _ _ _ _ _ rfl (setRow_heap _ _ _ _ _ _ hr1) Try.underlying24 rfl map_info) rfl ⟨_, _, _, _, _, _, rfl, HEND.out _ b1 _, EList.nil _ _, below_setRow b1 (show w.heap.size ≤ w.heap.size + 1 by omega) _⟩
    · obtain ⟨k, rfl⟩ : ∃ k : Nat, i = (k : Int) := ⟨i.toNat, by omega⟩
      by_cases hkn : k < n
      · obtain ⟨x, L, b, m, kk, rfl, hL, hcc, hle⟩ := hl.at' k hkn
        obtain ⟨r1, r2⟩ := dropM_at (cut := cut) hva hL
        rw [r1, r2]
        have HPIN := Lib.hid (pinF hcc hle)
        have hmL := hm (validM_iff.1 hva).1.2 L (List.mem_of_getElem? hL)
        rw [hle.length] at hmL
        have HDR := Lib.hid (fun W (h : Below w.heap.size w W) => refDrop_any _ L cut b m kk W (HPIN.out W h).2 hmL)
        unfold DropPost at HDR
        have HML := Lib.hid (fun W W' (h : Below w.heap.size w W) (h2 : Below W.heap.size W W') => (show MList W' (Plus (fun b => F b ∧ b < w.heap.size) W.heap.size) (some x) n c Ls from
          ((hl.cut.on (Same.below h)).on (Same.below h2)).mono fun _ _ h => .inl h))
        have hcw := fun W (h : Below w.heap.size w W) => (HPIN.out W h).1
        have hkI : (k : Int) < (n : Int) := by omega
        have hk0 : ¬ (k : Int) < 0 := by omega
        have hkd : decide ((k : Int) < 0) = false := by simp
        have hkd2 : decide ((n : Int) ≤ (k : Int)) = false := by simp; omega
        have hkd3 : decide (n ≤ k) = false := by simp; omega
        have HCW := Lib.hid hcw
        clear hva hl hcc hle hm hcw hi r1 r2
        by_cases hg : goneL L cut = []
        · rw [if_pos hg, hg]
          have HG0 := Lib.hid (show (goneL L cut).length = 0 by rw [hg]; rfl)
          clear hg
          go_enter Try.func33, Try.ntmps33
          have hc0 := map_row hx0
          generalize hw0 : (w.alloc (mapRow (some x) n c)).alloc (mapRow none 0 0) = w0 at *
          go_wp2_with (first
            | (go_at_call 28; ((with_reducible refine (HV.out _ hA).mono ?_); rintro e w1 ⟨rfl, hb1⟩; have hr1 := e_on hb1 hr0 (e_lt hr0); have hx1 := e_on hb1 hx0 (e_lt hx0); have hc1 := map_row hx1; clear hc0; have b1 := hA.trans (hb1.mono hA.size); have hcx := HCW.out _ b1))
            | (go_at_call 53; ((with_reducible refine (HDR.out _ b1).mono ?_); rintro e w2 ⟨a2, m2, k2, a3, m3, k3, rfl, l2, l3, hb2⟩; have hr2 := e_on hb2 hr1 (e_lt hr1); have hx2 := e_on hb2 hx1 (e_lt hx1); have hc2 := map_row hx2; clear hc1; have b2 := b1.trans (hb2.mono b1.size); have hm3 := l3.length; rw [HG0.out] at hm3; obtain rfl : m3 = 0 := hm3.symm))
            | ((with_reducible refine Plan.store_lit 24 (.tmp 6) _ (w.heap.size + 1) ?_ hr2 ?_ ?_ ?_ ?_ ?_ ?_); rotate_left; (· rfl); (· rfl); (· exact map_info); (· rfl); (· simp [Value.oneCell']); simp only [Act.put]))
          exact bodyPost_ret (Plan.results_cell_tmp (p := 6) (q := 7) rfl _ _ _ _ _ _ _ rfl (setRow_heap _ _ _ _ _ _ hr2) Try.underlying24 rfl map_info) rfl ⟨_, _, _, _, _, _, rfl, HEND.out _ b2 _, EList.nil _ _, below_setRow b2 (show w.heap.size ≤ w.heap.size + 1 by omega) _⟩
        · rw [if_neg hg]
          have HG1 := Lib.hid (gone_len hg)
          clear hg
          go_enter Try.func33, Try.ntmps33
          have hc0 := map_row hx0
          generalize hw0 : (w.alloc (mapRow (some x) n c)).alloc (mapRow none 0 0) = w0 at *
          go_wp2_with (first
            | (go_at_call 28; ((with_reducible refine (HV.out _ hA).mono ?_); rintro e w1 ⟨rfl, hb1⟩; have hr1 := e_on hb1 hr0 (e_lt hr0); have hx1 := e_on hb1 hx0 (e_lt hx0); have hc1 := map_row hx1; clear hc0; have b1 := hA.trans (hb1.mono hA.size); have hcx := HCW.out _ b1))
            | (go_at_call 53; ((with_reducible refine (HDR.out _ b1).mono ?_); rintro e w2 ⟨a2, m2, k2, a3, m3, k3, rfl, l2, l3, hb2⟩; have hr2 := e_on hb2 hr1 (e_lt hr1); have hx2 := e_on hb2 hx1 (e_lt hx1); have hc2 := map_row hx2; clear hc1; have b2 := b1.trans (hb2.mono b1.size); have hm3 := l3.length; obtain ⟨hm3a, hm3b⟩ := HG1.out m3 hm3; have HW := Lib.hid (refWithM_any _ Ls (some x) n c k (stayL L cut) a2 m2 k2 w2 (HML.out _ _ b1 hb2) hkn l2 (by omega))))
            | (go_at_call 37; ((with_reducible refine HW.out.mono ?_); rintro e w3 ⟨g3, c3, rfl, l4, hb3⟩; have hr3 := e_on hb3 hr2 (e_lt hr2); have b3 := b2.trans (hb3.mono b2.size); have hs1 := b1.size; have hs2 := hb2.size; have hs0 := e_lt hr1; have l5 := l3.on (Same.below hb3)))
            | ((with_reducible refine Plan.store_lit 24 (.tmp 6) _ (w.heap.size + 1) ?_ hr3 ?_ ?_ ?_ ?_ ?_ ?_); rotate_left; (· rfl); (· rfl); (· exact map_info); (· rfl); (· simp [Value.oneCell']); simp only [Act.put]))
          have hN : ∀ b, Plus (Plus (fun b => F b ∧ b < w.heap.size) w1.heap.size) w2.heap.size b → b ≠ w.heap.size + 1 ∧ Plus F w.heap.size b := fun b h => by
            rcases h with (h | h) | h
            · exact ⟨by have := h.2; omega, .inl h.1⟩
            · exact ⟨by omega, .inr (by omega)⟩
            · exact ⟨by omega, .inr (by omega)⟩
          have M9 := (l4.on (Same.row (r := w.heap.size + 1) (fun h9 => (hN _ h9).1 rfl) #[.slice (some ⟨g3, 0, none⟩) n c3])).mono (G := Plus F w.heap.size) (fun b _ h9 => (hN b h9).2)
          have E9 := (l5.on (Same.row (r := w.heap.size + 1) (fun h9 => (hN _ (.inl h9)).1 rfl) #[.slice (some ⟨g3, 0, none⟩) n c3])).mono (G := Plus F w.heap.size) (fun b _ h9 => (hN b (.inl h9)).2)
          exact bodyPost_ret (Plan.results_cell_tmp (p := 6) (q := 7) rfl _ _ _ _ _ _ _ rfl (setRow_heap _ _ _ _ _ _ hr3) Try.underlying24 rfl map_info) rfl ⟨_, _, _, _, _, _, rfl, M9, E9, below_setRow b3 (show w.heap.size ≤ w.heap.size + 1 by omega) _⟩
      · obtain ⟨r1, r2⟩ := dropM_no (Ls := Ls) (i := (k : Int)) (cut := cut) (fun h => by omega)
        rw [r1, r2]
        have hk0 : ¬ (k : Int) < 0 := by omega
        have hkd : decide ((k : Int) < 0) = false := by simp
        have hkd2 : decide ((n : Int) ≤ (k : Int)) = true := by simp; omega
        have hkd3 : decide (n ≤ k) = true := by simp; omega
        have hkd4 : (n : Int) ≤ (k : Int) := by omega
        clear hva hl r1 r2 hi
        go_enter Try.func33, Try.ntmps33
        have hc0 := map_row hx0
        generalize hw0 : (w.alloc (mapRow a n c)).alloc (mapRow none 0 0) = w0 at *
        go_wp2_with (first
          | (go_at_call 28; ((with_reducible refine (HV.out _ hA).mono ?_); rintro e w1 ⟨rfl, hb1⟩; have hr1 := e_on hb1 hr0 (e_lt hr0); have hx1 := e_on hb1 hx0 (e_lt hx0); have hc1 := map_row hx1; clear hc0; have b1 := hA.trans (hb1.mono hA.size)))
          | ((with_reducible refine Plan.store_lit 24 (.tmp 6) _ (w.heap.size + 1) ?_ hr1 ?_ ?_ ?_ ?_ ?_ ?_); rotate_left; (· rfl); (· rfl); (· exact map_info); (· rfl); (· simp [Value.oneCell']); simp only [Act.put]))
        exact bodyPost_ret (Plan.results_cell_tmp (p := 6) (q := 7) rfl _ _ _ _ _ _ _ rfl (setRow_heap _ _ _ _ _ _ hr1) Try.underlying24 rfl map_info) rfl ⟨_, _, _, _, _, _, rfl, HEND.out _ b1 _, EList.nil _ _, below_setRow b1 (show w.heap.size ≤ w.heap.size + 1 by omega) _⟩
end Go.Proofs.Ytljobnfilnbefaa.Ents

/- The walk of the document's Relocate of a map. -/
namespace Go.Proofs.Ytljobnfilnbefaa.Ents
open Go.RowKit Plan EntMath
/-- what Relocate leaves -/
def RelMPost (w : World) (F : Nat → Prop) (Ls : List (List Ent)) (B : Bool) (r : Ending) (w' : World) : Prop :=
  ∃ a n c, r = .returned (.tuple #[mapV a n c, .bool B]) ∧ MList w' (Plus F w.heap.size) a n c Ls ∧ Below w.heap.size w w'
theorem relM_no {Ls : List (List Ent)} {b v fz fo tz to m : Int} (h : ¬ (validM Ls = true ∧ 0 ≤ b)) : relocM Ls b v fz fo tz to m = Ls ∧ movesM Ls b v fz fo tz to m = false := by
  have h1 : movesM Ls b v fz fo tz to m = false := by
    cases hv : validM Ls
    · simp [movesM, hv]
    · have : ¬ 0 ≤ b := fun h0 => h ⟨hv, h0⟩
      simp [movesM, this]
  exact ⟨by unfold relocM; rw [h1]; rfl, h1⟩
theorem relM_at {Ls : List (List Ent)} {b v fz fo tz to m : Int} (h : validM Ls = true) (hb : 0 ≤ b) : movesM Ls b v fz fo tz to m = moves (shardOf Ls b) b v fz fo tz to m ∧ relocM Ls b v fz fo tz to m = if moves (shardOf Ls b) b v fz fo tz to m = true then Ls.set (st Ls b) (relocL (shardOf Ls b) b v fz fo tz to m) else Ls := by
  have h1 : movesM Ls b v fz fo tz to m = moves (shardOf Ls b) b v fz fo tz to m := by simp [movesM, h, hb]
  exact ⟨h1, by unfold relocM; rw [h1]⟩
theorem heap4 (w : World) (a b c d : Obj) : ((((w.alloc a).alloc b).alloc c).alloc d).heap[w.heap.size]? = some a ∧ ((((w.alloc a).alloc b).alloc c).alloc d).heap[w.heap.size + 1]? = some b ∧ ((((w.alloc a).alloc b).alloc c).alloc d).heap[w.heap.size + 2]? = some c ∧ ((((w.alloc a).alloc b).alloc c).alloc d).heap[w.heap.size + 3]? = some d := by
  have h3 : (((w.alloc a).alloc b).alloc c).heap.size = w.heap.size + 3 := by simp only [World.size_alloc]
  have h2 : ((w.alloc a).alloc b).heap.size = w.heap.size + 2 := by simp only [World.size_alloc]
  refine ⟨e_al (e_al (heap_first w a b) c) d, e_al (e_al (heap_second w a b) c) d, e_al ?_ d, ?_⟩
  · have := heap_alloc_new ((w.alloc a).alloc b) c; rwa [h2] at this
  · have := heap_alloc_new (((w.alloc a).alloc b).alloc c) d; rwa [h3] at this
set_option maxHeartbeats 8000000 in
set_option maxRecDepth 20000 in
theorem refRelocM_any (F : Nat → Prop) (Ls : List (List Ent)) (b v fz fo tz to m : Int) (a : Option Addr) (n c : Nat) (w : World) (hl : MList w F a n c Ls) (hm : Ls.length ≤ 8 → ∀ L ∈ Ls, L.length ≤ 900000) :
    Calls Try.prog 32 #[mapV a n c, .int .i64 b, .int .i64 v, .agg #[.int .i64 fz, .int .i64 fo], .agg #[.int .i64 tz, .int .i64 to], .int .i64 m] w (RelMPost w F (relocM Ls b v fz fo tz to m) (movesM Ls b v fz fo tz to m)) := by
  have hlen := hl.length
  have hA : Below w.heap.size w ((((w.alloc (mapRow a n c)).alloc (placeRow fz fo)).alloc (placeRow tz to)).alloc (mapRow none 0 0)) := ((((Below.refl w.heap.size w).alloc (Nat.le_refl _) _).alloc (by simp) _).alloc (by simp; omega) _).alloc (by simp; omega) _
  obtain ⟨hx0, hp0, hq0, hr0⟩ := heap4 w (mapRow a n c) (placeRow fz fo) (placeRow tz to) (mapRow none 0 0)
  have HV := Lib.hid (fun W (h : Below w.heap.size w W) => refValidM_any _ Ls a n c W (hl.same h))
  have HEND := Lib.hid (fun W (h : Below w.heap.size w W) (cs : Array Value) => (show MList (W.setRow (w.heap.size + 3) cs) (Plus F w.heap.size) a n c Ls from
    ((hl.cut.on (Same.below (w' := W) h)).on (Same.row (r := w.heap.size + 3) (fun h9 => by have := h9.2; omega) cs)).mono (fun b _ h => .inl h.1)))
  cases hva : validM Ls
  · obtain ⟨r1, r2⟩ := relM_no (Ls := Ls) (b := b) (v := v) (fz := fz) (fo := fo) (tz := tz) (to := to) (m := m) (fun h => by rw [hva] at h; cases h.1)
    rw [r1, r2]
    rw [hva] at HV
    clear hva hl r1 r2
    go_enter Try.func32, Try.ntmps32
    have hc0 := map_row hx0
    generalize hw0 : (((w.alloc (mapRow a n c)).alloc (placeRow fz fo)).alloc (placeRow tz to)).alloc (mapRow none 0 0) = w0 at *
    go_wp2_with (first
      | (go_at_call 28; ((with_reducible refine (HV.out _ hA).mono ?_); rintro e w1 ⟨rfl, hb1⟩; have hr1 := e_on hb1 hr0 (e_lt hr0); have hx1 := e_on hb1 hx0 (e_lt hx0); have hp1 := e_on hb1 hp0 (e_lt hp0); have hq1 := e_on hb1 hq0 (e_lt hq0); have hc1 := map_row hx1; clear hc0; have b1 := hA.trans (hb1.mono hA.size)))
      | ((with_reducible refine Plan.store_lit 24 (.tmp 12) _ (w.heap.size + 3) ?_ hr1 ?_ ?_ ?_ ?_ ?_ ?_); rotate_left; (· rfl); (· rfl); (· exact map_info); (· rfl); (· simp [Value.oneCell']); simp only [Act.put]))
    exact bodyPost_ret (Plan.results_cell_tmp (p := 12) (q := 13) rfl _ _ _ _ _ _ _ rfl (setRow_heap _ _ _ _ _ _ hr1) Try.underlying24 rfl map_info) rfl ⟨_, _, _, rfl, HEND.out _ b1 _, below_setRow b1 (show w.heap.size ≤ w.heap.size + 3 by omega) _⟩
  · rw [hva] at HV
    have hv8 := (validM_iff.1 hva).1
    by_cases hb : b < 0
    · obtain ⟨r1, r2⟩ := relM_no (Ls := Ls) (b := b) (v := v) (fz := fz) (fo := fo) (tz := tz) (to := to) (m := m) (fun h => by omega)
      rw [r1, r2]
      clear hva hl r1 r2
      go_enter Try.func32, Try.ntmps32
      have hc0 := map_row hx0
      generalize hw0 : (((w.alloc (mapRow a n c)).alloc (placeRow fz fo)).alloc (placeRow tz to)).alloc (mapRow none 0 0) = w0 at *
      go_wp2_with (first
        | (go_at_call 28; ((with_reducible refine (HV.out _ hA).mono ?_); rintro e w1 ⟨rfl, hb1⟩; have hr1 := e_on hb1 hr0 (e_lt hr0); have hx1 := e_on hb1 hx0 (e_lt hx0); have hp1 := e_on hb1 hp0 (e_lt hp0); have hq1 := e_on hb1 hq0 (e_lt hq0); have hc1 := map_row hx1; clear hc0; have b1 := hA.trans (hb1.mono hA.size)))
        | ((with_reducible refine Plan.store_lit 24 (.tmp 12) _ (w.heap.size + 3) ?_ hr1 ?_ ?_ ?_ ?_ ?_ ?_); rotate_left; (· rfl); (· rfl); (· exact map_info); (· rfl); (· simp [Value.oneCell']); simp only [Act.put]))
      exact bodyPost_ret (Plan.results_cell_tmp (p := 12) (q := 13) rfl _ _ _ _ _ _ _ rfl (setRow_heap _ _ _ _ _ _ hr1) Try.underlying24 rfl map_info) rfl ⟨_, _, _, rfl, HEND.out _ b1 _, below_setRow b1 (show w.heap.size ≤ w.heap.size + 3 by omega) _⟩
    · have h0 : 0 ≤ b := by omega
      obtain ⟨r1, r2⟩ := relM_at (v := v) (fz := fz) (fo := fo) (tz := tz) (to := to) (m := m) hva h0
      rw [r1, r2]
      have hkn := st_lt hva b
      rw [hlen] at hkn
      have hat := shard_at hva b
      obtain ⟨x, L, b', m', kk, rfl, hL, hcc, hle⟩ := hl.at' (st Ls b) hkn
      rw [hat] at hL
      obtain rfl := Option.some.inj hL
      have HPIN := Lib.hid (pinF hcc hle)
      have hmL := hm hv8.2 _ (List.mem_of_getElem? hat)
      rw [hle.length] at hmL
      have HRL := Lib.hid (fun W (h : Below w.heap.size w W) => refRelocate_any _ (shardOf Ls b) b v fz fo tz to m b' m' kk W (HPIN.out W h).2 hmL)
      unfold RelPost at HRL
      have HML := Lib.hid (fun W W' (h : Below w.heap.size w W) (h2 : Below W.heap.size W W') => (show MList W' (Plus (fun b => F b ∧ b < w.heap.size) W.heap.size) (some x) n c Ls from
        ((hl.cut.on (Same.below h)).on (Same.below h2)).mono fun _ _ h => .inl h))
      have HCW := Lib.hid (fun W (h : Below w.heap.size w W) => (HPIN.out W h).1)
      have HS := Lib.hid (fun W => refStripe_any Ls b (some x) n c W hlen)
      rw [stripe_eq hva h0] at HS
      generalize relocL (shardOf Ls b) b v fz fo tz to m = RL at *
      generalize moves (shardOf Ls b) b v fz fo tz to m = M at *
      generalize st Ls b = k at *
      have hkI : (k : Int) < (n : Int) := by omega
      have hbd : decide (b < 0) = false := by simpa using hb
      clear hva hl hcc hle hm hat r1 r2
      cases M
      · rw [if_neg (by decide)]
        go_enter Try.func32, Try.ntmps32
        have hc0 := map_row hx0
        generalize hw0 : (((w.alloc (mapRow (some x) n c)).alloc (placeRow fz fo)).alloc (placeRow tz to)).alloc (mapRow none 0 0) = w0 at *
        go_wp2_with (first
          | (go_at_call 28; ((with_reducible refine (HV.out _ hA).mono ?_); rintro e w1 ⟨rfl, hb1⟩; have hr1 := e_on hb1 hr0 (e_lt hr0); have hx1 := e_on hb1 hx0 (e_lt hx0); have hp1 := e_on hb1 hp0 (e_lt hp0); have hq1 := e_on hb1 hq0 (e_lt hq0); have hc1 := map_row hx1; clear hc0; have b1 := hA.trans (hb1.mono hA.size)))
          | (go_at_call 30; ((with_reducible refine (HS.out _).mono ?_); rintro e w2 ⟨rfl, hb2⟩; have hr2 := e_on hb2 hr1 (e_lt hr1); have hx2 := e_on hb2 hx1 (e_lt hx1); have hp2 := e_on hb2 hp1 (e_lt hp1); have hq2 := e_on hb2 hq1 (e_lt hq1); have hc2 := map_row hx2; clear hc1; have b2 := b1.trans (hb2.mono b1.size))))
        have hcx := HCW.out _ b2
        refine Plan.start (fun W => W.cell? ⟨w.heap.size, 0, none⟩ = some (.slice (some x) n c) ∧ W.cell? (x.add k) = some (.slice b' m' kk) ∧ (W.cell? ⟨w.heap.size + 1, 0, none⟩ = some (.int .i64 fz) ∧ W.cell? ⟨w.heap.size + 1, 1, none⟩ = some (.int .i64 fo)) ∧ (W.cell? ⟨w.heap.size + 2, 0, none⟩ = some (.int .i64 tz) ∧ W.cell? ⟨w.heap.size + 2, 1, none⟩ = some (.int .i64 to))) [(0, true), (1, true), (2, true), (3, true), (4, true), (5, true), (6, true), (7, true), (8, true), (9, true), (10, false), (11, true), (12, true), (13, true), (14, true), (15, true)] (by kernel_rfl) (by kernel_rfl) (by kernel_rfl) (by kernel_rfl) ⟨hc2, hcx, place_row hp2, place_row hq2⟩ ?_
        simp only [List.map_cons, List.map_nil, List.getElem?_toArray, List.getElem?_cons_zero, List.getElem?_cons_succ]
        repeat (first | (refine Plan.take ?_ (by rfl) ?_ ?_; rotate_left; (· rintro w9 ⟨u0, u1, ⟨u2, u3⟩, u4, u5⟩; go_simp; (try rw [if_neg (by omega)]); all_goals (with_reducible rfl)); simp only [Act.put, List.setIfInBounds_toArray, List.set_cons_zero, List.set_cons_succ]) | (refine Plan.pass (by rfl) ?_; simp only [Act.put, List.setIfInBounds_toArray, List.set_cons_zero, List.set_cons_succ]))
        have b2' := b2.drew
        refine Plan.call (by rfl) 52 _ ?_ (HRL.out _ b2') ?_
        · go_simp
        rintro e9 w3 ⟨a3, n3, c3, rfl, l3, hb3⟩
        have hx3 := e_on hb3 (show w2.drew.heap[w.heap.size]? = _ from hx2) (e_lt hx2)
        have hp3 := e_on hb3 (show w2.drew.heap[w.heap.size + 1]? = _ from hp2) (e_lt hp2)
        have hq3 := e_on hb3 (show w2.drew.heap[w.heap.size + 2]? = _ from hq2) (e_lt hq2)
        have hr3 := e_on hb3 (show w2.drew.heap[w.heap.size + 3]? = _ from hr2) (e_lt hr2)
        have b3 := b2'.trans (hb3.mono b2'.size)
        have hcx3 := HCW.out _ b3
        have hs2 : w.heap.size + 3 < w2.heap.size := e_lt hr2
        refine ⟨_, rfl, ⟨map_row hx3, hcx3, place_row hp3, place_row hq3⟩, ?_⟩
        simp only [Act.put, List.setIfInBounds_toArray, List.set_cons_zero, List.set_cons_succ]
        repeat (first | (refine Plan.take ?_ (by rfl) ?_ ?_; rotate_left; (· rintro w9 ⟨u0, u1, ⟨u2, u3⟩, u4, u5⟩; go_simp; (try rw [if_neg (by omega)]); all_goals (with_reducible rfl)); simp only [Act.put, List.setIfInBounds_toArray, List.set_cons_zero, List.set_cons_succ]) | (refine Plan.pass (by rfl) ?_; simp only [Act.put, List.setIfInBounds_toArray, List.set_cons_zero, List.set_cons_succ]))
        refine Plan.ends ?_
        have hc3 := map_row hx3
        clear hcx hcx3 hc2
        go_wp2_with (first
          | ((with_reducible refine Plan.store_lit 24 (.tmp 12) _ (w.heap.size + 3) ?_ hr3 ?_ ?_ ?_ ?_ ?_ ?_); rotate_left; (· rfl); (· rfl); (· exact map_info); (· rfl); (· simp [Value.oneCell']); simp only [Act.put]))
        exact bodyPost_ret (Plan.results_cell_tmp (p := 12) (q := 13) rfl _ _ _ _ _ _ _ rfl (setRow_heap _ _ _ _ _ _ hr3) Try.underlying24 rfl map_info) rfl ⟨_, _, _, rfl, HEND.out _ b3 _, below_setRow b3 (show w.heap.size ≤ w.heap.size + 3 by omega) _⟩
      · rw [if_pos rfl]
        go_enter Try.func32, Try.ntmps32
        have hc0 := map_row hx0
        generalize hw0 : (((w.alloc (mapRow (some x) n c)).alloc (placeRow fz fo)).alloc (placeRow tz to)).alloc (mapRow none 0 0) = w0 at *
        go_wp2_with (first
          | (go_at_call 28; ((with_reducible refine (HV.out _ hA).mono ?_); rintro e w1 ⟨rfl, hb1⟩; have hr1 := e_on hb1 hr0 (e_lt hr0); have hx1 := e_on hb1 hx0 (e_lt hx0); have hp1 := e_on hb1 hp0 (e_lt hp0); have hq1 := e_on hb1 hq0 (e_lt hq0); have hc1 := map_row hx1; clear hc0; have b1 := hA.trans (hb1.mono hA.size)))
          | (go_at_call 30; ((with_reducible refine (HS.out _).mono ?_); rintro e w2 ⟨rfl, hb2⟩; have hr2 := e_on hb2 hr1 (e_lt hr1); have hx2 := e_on hb2 hx1 (e_lt hx1); have hp2 := e_on hb2 hp1 (e_lt hp1); have hq2 := e_on hb2 hq1 (e_lt hq1); have hc2 := map_row hx2; clear hc1; have b2 := b1.trans (hb2.mono b1.size))))
        have hcx := HCW.out _ b2
        refine Plan.start (fun W => W.cell? ⟨w.heap.size, 0, none⟩ = some (.slice (some x) n c) ∧ W.cell? (x.add k) = some (.slice b' m' kk) ∧ (W.cell? ⟨w.heap.size + 1, 0, none⟩ = some (.int .i64 fz) ∧ W.cell? ⟨w.heap.size + 1, 1, none⟩ = some (.int .i64 fo)) ∧ (W.cell? ⟨w.heap.size + 2, 0, none⟩ = some (.int .i64 tz) ∧ W.cell? ⟨w.heap.size + 2, 1, none⟩ = some (.int .i64 to))) [(0, true), (1, true), (2, true), (3, true), (4, true), (5, true), (6, true), (7, true), (8, true), (9, true), (10, false), (11, true), (12, true), (13, true), (14, true), (15, true)] (by kernel_rfl) (by kernel_rfl) (by kernel_rfl) (by kernel_rfl) ⟨hc2, hcx, place_row hp2, place_row hq2⟩ ?_
        simp only [List.map_cons, List.map_nil, List.getElem?_toArray, List.getElem?_cons_zero, List.getElem?_cons_succ]
        repeat (first | (refine Plan.take ?_ (by rfl) ?_ ?_; rotate_left; (· rintro w9 ⟨u0, u1, ⟨u2, u3⟩, u4, u5⟩; go_simp; (try rw [if_neg (by omega)]); all_goals (with_reducible rfl)); simp only [Act.put, List.setIfInBounds_toArray, List.set_cons_zero, List.set_cons_succ]) | (refine Plan.pass (by rfl) ?_; simp only [Act.put, List.setIfInBounds_toArray, List.set_cons_zero, List.set_cons_succ]))
        have b2' := b2.drew
        refine Plan.call (by rfl) 52 _ ?_ (HRL.out _ b2') ?_
        · go_simp
        rintro e9 w3 ⟨a3, n3, c3, rfl, l3, hb3⟩
        have hx3 := e_on hb3 (show w2.drew.heap[w.heap.size]? = _ from hx2) (e_lt hx2)
        have hp3 := e_on hb3 (show w2.drew.heap[w.heap.size + 1]? = _ from hp2) (e_lt hp2)
        have hq3 := e_on hb3 (show w2.drew.heap[w.heap.size + 2]? = _ from hq2) (e_lt hq2)
        have hr3 := e_on hb3 (show w2.drew.heap[w.heap.size + 3]? = _ from hr2) (e_lt hr2)
        have b3 := b2'.trans (hb3.mono b2'.size)
        have hcx3 := HCW.out _ b3
        have hs2 : w.heap.size + 3 < w2.heap.size := e_lt hr2
        refine ⟨_, rfl, ⟨map_row hx3, hcx3, place_row hp3, place_row hq3⟩, ?_⟩
        simp only [Act.put, List.setIfInBounds_toArray, List.set_cons_zero, List.set_cons_succ]
        repeat (first | (refine Plan.take ?_ (by rfl) ?_ ?_; rotate_left; (· rintro w9 ⟨u0, u1, ⟨u2, u3⟩, u4, u5⟩; go_simp; (try rw [if_neg (by omega)]); all_goals (with_reducible rfl)); simp only [Act.put, List.setIfInBounds_toArray, List.set_cons_zero, List.set_cons_succ]) | (refine Plan.pass (by rfl) ?_; simp only [Act.put, List.setIfInBounds_toArray, List.set_cons_zero, List.set_cons_succ]))
        refine Plan.ends ?_
        have hc3 := map_row hx3
        clear hcx hcx3 hc2
        have HW := Lib.hid (refWithM_any _ Ls (some x) n c k RL a3 n3 c3 w3 (HML.out _ _ b2' hb3) hkn l3 (by omega))
        go_wp2_with (first
          | (go_at_call 37; ((with_reducible refine HW.out.mono ?_); rintro e w4 ⟨g4, c4, rfl, l4, hb4⟩; have hr4 := e_on hb4 hr3 (e_lt hr3); have b4 := b3.trans (hb4.mono b3.size); have hs3 := hb3.size))
          | ((with_reducible refine Plan.store_lit 24 (.tmp 12) _ (w.heap.size + 3) ?_ hr4 ?_ ?_ ?_ ?_ ?_ ?_); rotate_left; (· rfl); (· rfl); (· exact map_info); (· rfl); (· simp [Value.oneCell']); simp only [Act.put]))
        have hs3' : w2.heap.size ≤ w3.heap.size := hb3.size
        have hN : ∀ b, Plus (Plus (fun b => F b ∧ b < w.heap.size) w2.heap.size) w3.heap.size b → b ≠ w.heap.size + 3 ∧ Plus F w.heap.size b := fun b h => by
          rcases h with (h | h) | h
          · exact ⟨by have := h.2; omega, .inl h.1⟩
          · exact ⟨by omega, .inr (by omega)⟩
          · exact ⟨by omega, .inr (by omega)⟩
        have M9 := (l4.on (Same.row (r := w.heap.size + 3) (fun h9 => (hN _ h9).1 rfl) #[.slice (some ⟨g4, 0, none⟩) n c4])).mono (G := Plus F w.heap.size) (fun b _ h9 => (hN b h9).2)
        exact bodyPost_ret (Plan.results_cell_tmp (p := 12) (q := 13) rfl _ _ _ _ _ _ _ rfl (setRow_heap _ _ _ _ _ _ hr4) Try.underlying24 rfl map_info) rfl ⟨_, _, _, rfl, M9, below_setRow b4 (show w.heap.size ≤ w.heap.size + 3 by omega) _⟩
end Go.Proofs.Ytljobnfilnbefaa.Ents

/- The walk of the document's Install of a map. -/
namespace Go.Proofs.Ytljobnfilnbefaa.Ents
open Go.RowKit Plan EntMath
/-- what Install leaves -/
def InstMPost (w : World) (F : Nat → Prop) (Ls : List (List Ent)) (E : Ent) (B : Bool) (r : Ending) (w' : World) : Prop :=
  ∃ a n c, r = .returned (.tuple #[mapV a n c, entV E, .bool B]) ∧ MList w' (Plus F w.heap.size) a n c Ls ∧ Below w.heap.size w w'
theorem instM_no {Ls : List (List Ent)} {e : Ent} (h : ¬ (validM Ls = true ∧ 0 ≤ e.block)) : installM Ls e = Ls ∧ installME Ls e = zeroE ∧ newerM Ls e = false := by
  have h1 : newerM Ls e = false := by
    cases hv : validM Ls
    · simp [newerM, hv]
    · have : ¬ 0 ≤ e.block := fun h0 => h ⟨hv, h0⟩
      simp [newerM, this]
  exact ⟨by unfold installM; rw [h1]; rfl, by unfold installME; rw [if_neg h], h1⟩
theorem instM_at {Ls : List (List Ent)} {e : Ent} (h : validM Ls = true) (hb : 0 ≤ e.block) : newerM Ls e = newer (shardOf Ls e.block) e ∧ installME Ls e = installE (shardOf Ls e.block) e ∧ installM Ls e = if newer (shardOf Ls e.block) e = true then Ls.set (st Ls e.block) (installL (shardOf Ls e.block) e) else Ls := by
  have h1 : newerM Ls e = newer (shardOf Ls e.block) e := by simp [newerM, h, hb]
  exact ⟨h1, by unfold installME; rw [if_pos ⟨h, hb⟩], by unfold installM; rw [h1]⟩
/-- two structs and a plain one -/
theorem results_cct {P : Program} {fn : Func} {p q r : Tmp} {ty ty2 : TypeId} (h : fn.results = #[.cell p ty, .cell q ty2, .tmp r]) (tmps : Array Value) (w : World) (g g2 : Nat) (t t2 : TypeId) (cs cs2 : Array Value) (fr fr2 : Nat × Nat) (d d2 : TypeDesc)
    (hp : tmps.getD p undef = .pointer (some ⟨g, 0, none⟩)) (hq : tmps.getD q undef = .pointer (some ⟨g2, 0, none⟩)) (hg : w.heap[g]? = some (.cells cs t fr))
    (hu : P.underlying ty = some d) (hd : (match d with | .struct _ | .array _ _ => true | _ => false) = true) (hi : (P.info? ty).map (·.size) = some cs.size)
    (hg2 : w.heap[g2]? = some (.cells cs2 t2 fr2)) (hu2 : P.underlying ty2 = some d2) (hd2 : (match d2 with | .struct _ | .array _ _ => true | _ => false) = true) (hi2 : (P.info? ty2).map (·.size) = some cs2.size) :
    (results fn tmps).run P w = .ok (.tuple #[.agg cs, .agg cs2, tmps.getD r undef]) w := by
  have hp' : tmps[p]?.getD undef = .pointer (some ⟨g, 0, none⟩) := by simpa using hp
  have hq' : tmps[q]?.getD undef = .pointer (some ⟨g2, 0, none⟩) := by simpa using hq
  simp [results, h, hp', hq', asAddr, run_loadVar_row w g t ty cs fr d hg hu hd hi, run_loadVar_row w g2 t2 ty2 cs2 fr2 d2 hg2 hu2 hd2 hi2]
abbrev Six (W : World) (g : Nat) (b k v m z o : Int) : Prop :=
  W.cell? ⟨g, 0, none⟩ = some (.int .i64 b) ∧ W.cell? ⟨g, 1, none⟩ = some (.int .i64 k) ∧ W.cell? ⟨g, 2, none⟩ = some (.int .i64 v) ∧ W.cell? ⟨g, 3, none⟩ = some (.int .i64 m) ∧ W.cell? ⟨g, 4, none⟩ = some (.int .i64 z) ∧ W.cell? ⟨g, 5, none⟩ = some (.int .i64 o)
/-- the blocks that a list may have that is given back, but for the boxes of the results -/
def Keep (F : Nat → Prop) (H : Nat) : Nat → Prop := fun b => Plus F H b ∧ b ≠ H + 2 ∧ b ≠ H + 3
theorem keep_low {F : Nat → Prop} {H b : Nat} (h : F b ∧ b < H) : Keep F H b := ⟨.inl h.1, by omega, by omega⟩
theorem keep_of {F : Nat → Prop} {H N b : Nat} (h : Plus (fun b => F b ∧ b < H) N b) (hN : H + 3 < N) : Keep F H b := by
  rcases h with h | h
  · exact keep_low h
  · exact ⟨.inr (by omega), by omega, by omega⟩
theorem keep_new {F : Nat → Prop} {H N b : Nat} (h : Plus (Keep F H) N b) (hN : H + 3 < N) : b ≠ H + 2 ∧ b ≠ H + 3 ∧ Plus F H b := by
  rcases h with h | h
  · exact ⟨h.2.1, h.2.2, h.1⟩
  · exact ⟨by omega, by omega, .inr (by omega)⟩
set_option maxHeartbeats 16000000 in
set_option maxRecDepth 20000 in
theorem refInstM_any (F : Nat → Prop) (Ls : List (List Ent)) (e : Ent) (a : Option Addr) (n c : Nat) (w : World) (hl : MList w F a n c Ls) (hm : Ls.length ≤ 8 → ∀ L ∈ Ls, L.length ≤ 900000) :
    Calls Try.prog 20 #[mapV a n c, entV e] w (InstMPost w F (installM Ls e) (installME Ls e) (newerM Ls e)) := by
  have hlen := hl.length
  obtain ⟨eb, ek, ev, em, ez, eo⟩ := e
  have hA : Below w.heap.size w ((((w.alloc (mapRow a n c)).alloc (entRow eb ek ev em ez eo)).alloc (mapRow none 0 0)).alloc (entRow 0 0 0 0 0 0)) := ((((Below.refl w.heap.size w).alloc (Nat.le_refl _) _).alloc (by simp) _).alloc (by simp; omega) _).alloc (by simp; omega) _
  obtain ⟨hx0, hp0, hq0, hr0⟩ := heap4 w (mapRow a n c) (entRow eb ek ev em ez eo) (mapRow none 0 0) (entRow 0 0 0 0 0 0)
  have HV := Lib.hid (fun W (h : Below w.heap.size w W) => refValidM_any _ Ls a n c W (hl.same h))
  have HM := Lib.hid (fun W (h : Below w.heap.size w W) => (show MList W (fun b => F b ∧ b < w.heap.size) a n c Ls from hl.cut.on (Same.below (w' := W) h)))
  have HEND := Lib.hid (fun W (h : Below w.heap.size w W) (cs cs2 : Array Value) => (show MList ((W.setRow (w.heap.size + 2) cs).setRow (w.heap.size + 3) cs2) (Plus F w.heap.size) a n c Ls from
    (((hl.cut.on (Same.below (w' := W) h)).on (Same.row (r := w.heap.size + 2) (fun h9 => by have := h9.2; omega) cs)).on (Same.row (r := w.heap.size + 3) (fun h9 => by have := h9.2; omega) cs2)).mono (fun b _ h => .inl h.1)))
  cases hva : validM Ls
  · obtain ⟨r1, r2, r3⟩ := instM_no (Ls := Ls) (e := ⟨eb, ek, ev, em, ez, eo⟩) (fun h => by rw [hva] at h; cases h.1)
    rw [r1, r2, r3]
    rw [hva] at HV
    clear hva hl r1 r2 r3
    go_enter Try.func20, Try.ntmps20
    have hc0 := map_row hx0
    obtain ⟨c0, c1, c2, c3, c4, c5⟩ := entry_row hp0
    generalize hw0 : (((w.alloc (mapRow a n c)).alloc (entRow eb ek ev em ez eo)).alloc (mapRow none 0 0)).alloc (entRow 0 0 0 0 0 0) = w0 at *
    go_wp2_with (first
      | (go_at_call 28; ((with_reducible refine (HV.out _ hA).mono ?_); rintro e9 w1 ⟨rfl, hb1⟩; have hx1 := e_on hb1 hx0 (e_lt hx0); have hp1 := e_on hb1 hp0 (e_lt hp0); have hq1 := e_on hb1 hq0 (e_lt hq0); have hr1 := e_on hb1 hr0 (e_lt hr0); have hc1 := map_row hx1; clear c0 c1 c2 c3 c4 c5; obtain ⟨c0, c1, c2, c3, c4, c5⟩ := entry_row hp1; clear hc0; have b1 := hA.trans (hb1.mono hA.size)))
      | ((with_reducible refine Plan.store_lit 24 (.tmp 4) _ (w.heap.size + 2) ?_ hq1 ?_ ?_ ?_ ?_ ?_ ?_); rotate_left; (· rfl); (· rfl); (· exact map_info); (· rfl); (· simp [Value.oneCell']); simp only [Act.put])
      | ((with_reducible refine Plan.store_lit 28 (.tmp 5) _ (w.heap.size + 3) ?_ ((setRow_other w1 (w.heap.size + 2) (w.heap.size + 3) #[.slice a n c] (by omega)).trans hr1) ?_ ?_ ?_ ?_ ?_ ?_); rotate_left; (· rfl); (· rfl); (· exact entry_info); (· rfl); (· simp [Value.oneCell']); simp only [Act.put]))
    have hqf := (setRow_other (w1.setRow (w.heap.size + 2) #[.slice a n c]) (w.heap.size + 3) (w.heap.size + 2) #[.int .i64 0, .int .i64 0, .int .i64 0, .int .i64 0, .int .i64 0, .int .i64 0] (by omega)).trans (setRow_heap w1 (w.heap.size + 2) _ #[.slice a n c] _ _ hq1)
    have hrf := setRow_heap (w1.setRow (w.heap.size + 2) #[.slice a n c]) (w.heap.size + 3) _ #[.int .i64 0, .int .i64 0, .int .i64 0, .int .i64 0, .int .i64 0, .int .i64 0] _ _ ((setRow_other w1 (w.heap.size + 2) (w.heap.size + 3) #[.slice a n c] (by omega)).trans hr1)
    have bf := below_setRow (below_setRow b1 (show w.heap.size ≤ w.heap.size + 2 by omega) #[.slice a n c]) (show w.heap.size ≤ w.heap.size + 3 by omega) #[.int .i64 0, .int .i64 0, .int .i64 0, .int .i64 0, .int .i64 0, .int .i64 0]
    exact bodyPost_ret (results_cct (p := 4) (q := 5) (r := 6) rfl _ _ _ _ _ _ _ _ _ _ _ _ rfl rfl hqf Try.underlying24 rfl map_info hrf Try.underlying28 rfl entry_info) rfl ⟨_, _, _, rfl, HEND.out _ b1 _ _, bf⟩
  · rw [hva] at HV
    have hv8 := (validM_iff.1 hva).1
    by_cases hb : eb < 0
    · obtain ⟨r1, r2, r3⟩ := instM_no (Ls := Ls) (e := ⟨eb, ek, ev, em, ez, eo⟩) (fun h => by have h9 := h.2; simp only at h9; omega)
      rw [r1, r2, r3]
      clear hva hl r1 r2 r3
      go_enter Try.func20, Try.ntmps20
      have hc0 := map_row hx0
      obtain ⟨c0, c1, c2, c3, c4, c5⟩ := entry_row hp0
      generalize hw0 : (((w.alloc (mapRow a n c)).alloc (entRow eb ek ev em ez eo)).alloc (mapRow none 0 0)).alloc (entRow 0 0 0 0 0 0) = w0 at *
      go_wp2_with (first
        | (go_at_call 28; ((with_reducible refine (HV.out _ hA).mono ?_); rintro e9 w1 ⟨rfl, hb1⟩; have hx1 := e_on hb1 hx0 (e_lt hx0); have hp1 := e_on hb1 hp0 (e_lt hp0); have hq1 := e_on hb1 hq0 (e_lt hq0); have hr1 := e_on hb1 hr0 (e_lt hr0); have hc1 := map_row hx1; clear c0 c1 c2 c3 c4 c5; obtain ⟨c0, c1, c2, c3, c4, c5⟩ := entry_row hp1; clear hc0; have b1 := hA.trans (hb1.mono hA.size)))
        | ((with_reducible refine Plan.store_lit 24 (.tmp 4) _ (w.heap.size + 2) ?_ hq1 ?_ ?_ ?_ ?_ ?_ ?_); rotate_left; (· rfl); (· rfl); (· exact map_info); (· rfl); (· simp [Value.oneCell']); simp only [Act.put])
        | ((with_reducible refine Plan.store_lit 28 (.tmp 5) _ (w.heap.size + 3) ?_ ((setRow_other w1 (w.heap.size + 2) (w.heap.size + 3) #[.slice a n c] (by omega)).trans hr1) ?_ ?_ ?_ ?_ ?_ ?_); rotate_left; (· rfl); (· rfl); (· exact entry_info); (· rfl); (· simp [Value.oneCell']); simp only [Act.put]))
      have hqf := (setRow_other (w1.setRow (w.heap.size + 2) #[.slice a n c]) (w.heap.size + 3) (w.heap.size + 2) #[.int .i64 0, .int .i64 0, .int .i64 0, .int .i64 0, .int .i64 0, .int .i64 0] (by omega)).trans (setRow_heap w1 (w.heap.size + 2) _ #[.slice a n c] _ _ hq1)
      have hrf := setRow_heap (w1.setRow (w.heap.size + 2) #[.slice a n c]) (w.heap.size + 3) _ #[.int .i64 0, .int .i64 0, .int .i64 0, .int .i64 0, .int .i64 0, .int .i64 0] _ _ ((setRow_other w1 (w.heap.size + 2) (w.heap.size + 3) #[.slice a n c] (by omega)).trans hr1)
      have bf := below_setRow (below_setRow b1 (show w.heap.size ≤ w.heap.size + 2 by omega) #[.slice a n c]) (show w.heap.size ≤ w.heap.size + 3 by omega) #[.int .i64 0, .int .i64 0, .int .i64 0, .int .i64 0, .int .i64 0, .int .i64 0]
      exact bodyPost_ret (results_cct (p := 4) (q := 5) (r := 6) rfl _ _ _ _ _ _ _ _ _ _ _ _ rfl rfl hqf Try.underlying24 rfl map_info hrf Try.underlying28 rfl entry_info) rfl ⟨_, _, _, rfl, HEND.out _ b1 _ _, bf⟩
    · have h0 : 0 ≤ eb := by omega
      obtain ⟨r1, r2, r3⟩ := instM_at (e := ⟨eb, ek, ev, em, ez, eo⟩) hva h0
      rw [r1, r2, r3]
      try simp only
      have hkn := st_lt hva eb
      rw [hlen] at hkn
      have hat := shard_at hva eb
      obtain ⟨x, L, b', m', kk, rfl, hL, hcc, hle⟩ := hl.at' (st Ls eb) hkn
      rw [hat] at hL
      obtain rfl := Option.some.inj hL
      have HPIN := Lib.hid (pinF hcc hle)
      have hmL := hm hv8.2 _ (List.mem_of_getElem? hat)
      rw [hle.length] at hmL
      have HIN := Lib.hid (fun W (h : Below w.heap.size w W) => refInstall_any (fun b => F b ∧ b < w.heap.size) (shardOf Ls eb) ⟨eb, ek, ev, em, ez, eo⟩ b' m' kk W (fun b h9 => Nat.lt_of_lt_of_le h9.2 h.size) (HPIN.out W h).2 hmL)
      unfold InstPost at HIN
      have HCW := Lib.hid (fun W (h : Below w.heap.size w W) => (HPIN.out W h).1)
      have HS := Lib.hid (fun W => refStripe_any Ls eb (some x) n c W hlen)
      rw [stripe_eq hva h0] at HS
      generalize installL (shardOf Ls eb) ⟨eb, ek, ev, em, ez, eo⟩ = RL at *
      generalize installE (shardOf Ls eb) ⟨eb, ek, ev, em, ez, eo⟩ = Y at *
      generalize newer (shardOf Ls eb) ⟨eb, ek, ev, em, ez, eo⟩ = M at *
      generalize st Ls eb = k at *
      obtain ⟨yb, yk, yv, ym, yz, yo⟩ := Y
      try simp only at HIN
      have hkI : (k : Int) < (n : Int) := by omega
      have hbd : decide (eb < 0) = false := by simpa using hb
      clear hva hl hcc hle hm hat r1 r2 r3
      cases M
      · rw [if_neg (by decide)]
        go_enter Try.func20, Try.ntmps20
        have hc0 := map_row hx0
        obtain ⟨c0, c1, c2, c3, c4, c5⟩ := entry_row hp0
        generalize hw0 : (((w.alloc (mapRow (some x) n c)).alloc (entRow eb ek ev em ez eo)).alloc (mapRow none 0 0)).alloc (entRow 0 0 0 0 0 0) = w0 at *
        go_wp2_with (first
          | (go_at_call 28; ((with_reducible refine (HV.out _ hA).mono ?_); rintro e9 w1 ⟨rfl, hb1⟩; have hx1 := e_on hb1 hx0 (e_lt hx0); have hp1 := e_on hb1 hp0 (e_lt hp0); have hq1 := e_on hb1 hq0 (e_lt hq0); have hr1 := e_on hb1 hr0 (e_lt hr0); have hc1 := map_row hx1; clear c0 c1 c2 c3 c4 c5; obtain ⟨c0, c1, c2, c3, c4, c5⟩ := entry_row hp1; clear hc0; have b1 := hA.trans (hb1.mono hA.size)))
          | (go_at_call 30; ((with_reducible refine (HS.out _).mono ?_); rintro e9 w2 ⟨rfl, hb2⟩; have hx2 := e_on hb2 hx1 (e_lt hx1); have hp2 := e_on hb2 hp1 (e_lt hp1); have hq2 := e_on hb2 hq1 (e_lt hq1); have hr2 := e_on hb2 hr1 (e_lt hr1); have hc2 := map_row hx2; clear c0 c1 c2 c3 c4 c5; obtain ⟨c0, c1, c2, c3, c4, c5⟩ := entry_row hp2; clear hc1; have b2 := b1.trans (hb2.mono b1.size))))
        have hcx := HCW.out _ b2
        have b2' := b2.drew
        clear c0 c1 c2 c3 c4 c5
        refine Tree.start (fun W => W.cell? ⟨w.heap.size, 0, none⟩ = some (.slice (some x) n c) ∧ W.cell? (x.add k) = some (.slice b' m' kk) ∧ Six W (w.heap.size + 1) eb ek ev em ez eo) (.take 0 (.take 1 (.take 2 (.take 3 (.take 4 (.take 5 (.fork 6 (.take 7 (.take 8 (.take 9 (.take 10 (.only 11 (.take 12 (.only 13 (.take 14 (.done))))))))) 11 (.only 6 (.take 7 (.take 8 (.take 9 (.take 10 (.take 12 (.only 13 (.take 14 (.done))))))))))))))) ) (by kernel_rfl) (by kernel_rfl) (by kernel_rfl) (by kernel_rfl) ⟨hc2, hcx, entry_row hp2⟩ ?_
        simp only [Tree.T.map, List.getElem?_toArray, List.getElem?_cons_zero, List.getElem?_cons_succ]
        repeat (first | (refine Tree.take ?_ (by rfl) ?_ ?_; rotate_left; (· rintro w9 ⟨u0, u1, u2, u3, u4, u5, u6, u7⟩; go_simp; (try rw [if_neg (by omega)]); all_goals (with_reducible rfl)); simp only [Act.put, List.setIfInBounds_toArray, List.set_cons_zero, List.set_cons_succ]))
        refine Tree.fork (by rfl) (by rfl) ?_ ?_
        · refine Tree.wp_call 36 _ ?_ (HIN.out _ b2') ?_
          · go_simp
          rintro e9 w3 ⟨a3, n3, c3, rfl, l3, hb3⟩
          have hx3 := e_on hb3 (show w2.drew.heap[w.heap.size]? = _ from hx2) (e_lt hx2)
          have hp3 := e_on hb3 (show w2.drew.heap[w.heap.size + 1]? = _ from hp2) (e_lt hp2)
          have hq3 := e_on hb3 (show w2.drew.heap[w.heap.size + 2]? = _ from hq2) (e_lt hq2)
          have hr3 := e_on hb3 (show w2.drew.heap[w.heap.size + 3]? = _ from hr2) (e_lt hr2)
          have b3 := b2'.trans (hb3.mono b2'.size)
          have hcx3 := HCW.out _ b3
          refine ⟨_, rfl, ⟨map_row hx3, hcx3, entry_row hp3⟩, ?_⟩
          simp only [Act.put, List.setIfInBounds_toArray, List.set_cons_zero, List.set_cons_succ]
          repeat (first | (refine Tree.take ?_ (by rfl) ?_ ?_; rotate_left; (· rintro w9 ⟨u0, u1, u2, u3, u4, u5, u6, u7⟩; go_simp; (try rw [if_neg (by omega)]); all_goals (with_reducible rfl)); simp only [Act.put, List.setIfInBounds_toArray, List.set_cons_zero, List.set_cons_succ]))
          have hsz3 : w2.heap.size ≤ w3.heap.size := hb3.size
          have hx4 := e_al hx3 (entRow 0 0 0 0 0 0)
          have hp4 := e_al hp3 (entRow 0 0 0 0 0 0)
          have hq4 := e_al hq3 (entRow 0 0 0 0 0 0)
          have hr4 := e_al hr3 (entRow 0 0 0 0 0 0)
          have ho4 := heap_alloc_new w3 (entRow 0 0 0 0 0 0)
          have b4 := b3.alloc b3.size (entRow 0 0 0 0 0 0)
          have hcx4 := HCW.out _ b4
          refine Tree.only (by rfl) ?_
          refine Tree.wp_make (.pointer (some ⟨w3.heap.size, 0, none⟩)) (w3.alloc (entRow 0 0 0 0 0 0)) ?_ ⟨⟨map_row hx4, hcx4, entry_row hp4⟩, ?_⟩
          · go_simp
          simp only [Act.put, List.setIfInBounds_toArray, List.set_cons_zero, List.set_cons_succ]
          repeat (first | (refine Tree.take ?_ (by rfl) ?_ ?_; rotate_left; (· rintro w9 ⟨u0, u1, u2, u3, u4, u5, u6, u7⟩; go_simp; (try rw [if_neg (by omega)]); all_goals (with_reducible rfl)); simp only [Act.put, List.setIfInBounds_toArray, List.set_cons_zero, List.set_cons_succ]))
          have hlt3 : w.heap.size + 3 < w3.heap.size := e_lt hr3
          have hx5 := (setRow_other (w3.alloc (entRow 0 0 0 0 0 0)) w3.heap.size w.heap.size #[.int .i64 yb, .int .i64 yk, .int .i64 yv, .int .i64 ym, .int .i64 yz, .int .i64 yo] (by omega)).trans hx4
          have hp5 := (setRow_other (w3.alloc (entRow 0 0 0 0 0 0)) w3.heap.size (w.heap.size + 1) #[.int .i64 yb, .int .i64 yk, .int .i64 yv, .int .i64 ym, .int .i64 yz, .int .i64 yo] (by omega)).trans hp4
          have hq5 := (setRow_other (w3.alloc (entRow 0 0 0 0 0 0)) w3.heap.size (w.heap.size + 2) #[.int .i64 yb, .int .i64 yk, .int .i64 yv, .int .i64 ym, .int .i64 yz, .int .i64 yo] (by omega)).trans hq4
          have hr5 := (setRow_other (w3.alloc (entRow 0 0 0 0 0 0)) w3.heap.size (w.heap.size + 3) #[.int .i64 yb, .int .i64 yk, .int .i64 yv, .int .i64 ym, .int .i64 yz, .int .i64 yo] (by omega)).trans hr4
          have ho5 := setRow_heap (w3.alloc (entRow 0 0 0 0 0 0)) w3.heap.size _ #[.int .i64 yb, .int .i64 yk, .int .i64 yv, .int .i64 ym, .int .i64 yz, .int .i64 yo] _ _ ho4
          have b5 := below_setRow b4 (show w.heap.size ≤ w3.heap.size by omega) #[.int .i64 yb, .int .i64 yk, .int .i64 yv, .int .i64 ym, .int .i64 yz, .int .i64 yo]
          have l5 := (l3.cut.on ((Same.alloc w3 (entRow 0 0 0 0 0 0)).trans (Same.row (r := w3.heap.size) (fun h9 => by have := h9.2; omega) #[.int .i64 yb, .int .i64 yk, .int .i64 yv, .int .i64 ym, .int .i64 yz, .int .i64 yo]))).mono (G := Keep F w.heap.size) (fun b _ h9 => keep_of h9.1 (show w.heap.size + 3 < w2.heap.size from e_lt hr2))
          have M5 := (HM.out _ b5).mono (G := Keep F w.heap.size) (fun b _ h9 => keep_low h9)
          have hcx5 := HCW.out _ b5
          refine Tree.only (by rfl) (wp_store_row 28 _ _ rfl w3.heap.size #[.int .i64 yb, .int .i64 yk, .int .i64 yv, .int .i64 ym, .int .i64 yz, .int .i64 yo] (by rfl) (by rfl) 28 _ ho4 entry_info rfl (by simp [Value.oneCell']) ⟨⟨map_row hx5, hcx5, entry_row hp5⟩, ?_⟩)
          simp only [Act.put]
          repeat (first | (refine Tree.take ?_ (by rfl) ?_ ?_; rotate_left; (· rintro w9 ⟨u0, u1, u2, u3, u4, u5, u6, u7⟩; go_simp; (try rw [if_neg (by omega)]); all_goals (with_reducible rfl)); simp only [Act.put, List.setIfInBounds_toArray, List.set_cons_zero, List.set_cons_succ]))
          refine Tree.ends ?_
          generalize (w3.alloc (entRow 0 0 0 0 0 0)).setRow w3.heap.size #[.int .i64 yb, .int .i64 yk, .int .i64 yv, .int .i64 ym, .int .i64 yz, .int .i64 yo] = w5 at *
          clear hx2 hp2 hq2 hr2 hx3 hp3 hq3 hr3 hx4 hp4 hq4 hr4 ho4 hcx hcx3 hcx4 hcx5 l3 hc2
          go_wp2_with fail
          refine Plan.start (fun W => W.cell? ⟨w.heap.size, 0, none⟩ = some (.slice (some x) n c) ∧ Six W w3.heap.size yb yk yv ym yz yo) [(0, true), (1, true), (2, false), (3, false), (4, true)] (by kernel_rfl) (by kernel_rfl) (by kernel_rfl) (by kernel_rfl) ⟨map_row hx5, entry_row ho5⟩ ?_
          simp only [List.map_cons, List.map_nil, List.getElem?_toArray, List.getElem?_cons_zero, List.getElem?_cons_succ]
          repeat (first | (refine Plan.take ?_ (by rfl) ?_ ?_; rotate_left; (· rintro w9 ⟨u0, u1, u2, u3, u4, u5, u6⟩; go_simp; (try rw [if_neg (by omega)]); all_goals (with_reducible rfl)); simp only [Act.put, List.setIfInBounds_toArray, List.set_cons_zero, List.set_cons_succ]) | (refine Plan.pass (by rfl) ?_; simp only [Act.put, List.setIfInBounds_toArray, List.set_cons_zero, List.set_cons_succ]))
          have hx6 := (setRow_other w5.drew (w.heap.size + 2) w.heap.size #[.slice (some x) n c] (by omega)).trans (show w5.drew.heap[w.heap.size]? = _ from hx5)
          have ho6 := (setRow_other w5.drew (w.heap.size + 2) w3.heap.size #[.slice (some x) n c] (by omega)).trans (show w5.drew.heap[w3.heap.size]? = _ from ho5)
          have hr6 := (setRow_other w5.drew (w.heap.size + 2) (w.heap.size + 3) #[.slice (some x) n c] (by omega)).trans (show w5.drew.heap[w.heap.size + 3]? = _ from hr5)
          refine Plan.store (by rfl) 24 (.tmp 4) (.tmp 38) rfl (w.heap.size + 2) #[.slice (some x) n c] rfl rfl 24 _ (show w5.drew.heap[w.heap.size + 2]? = _ from hq5) map_info rfl (by simp [Value.oneCell']) ⟨map_row hx6, entry_row ho6⟩ ?_
          simp only [Act.put]
          have hx7 := (setRow_other (w5.drew.setRow (w.heap.size + 2) #[.slice (some x) n c]) (w.heap.size + 3) w.heap.size #[.int .i64 yb, .int .i64 yk, .int .i64 yv, .int .i64 ym, .int .i64 yz, .int .i64 yo] (by omega)).trans hx6
          have ho7 := (setRow_other (w5.drew.setRow (w.heap.size + 2) #[.slice (some x) n c]) (w.heap.size + 3) w3.heap.size #[.int .i64 yb, .int .i64 yk, .int .i64 yv, .int .i64 ym, .int .i64 yz, .int .i64 yo] (by omega)).trans ho6
          refine Plan.store (by rfl) 28 (.tmp 5) (.tmp 39) rfl (w.heap.size + 3) #[.int .i64 yb, .int .i64 yk, .int .i64 yv, .int .i64 ym, .int .i64 yz, .int .i64 yo] rfl rfl 28 _ hr6 entry_info rfl (by simp [Value.oneCell']) ⟨map_row hx7, entry_row ho7⟩ ?_
          simp only [Act.put]
          repeat (first | (refine Plan.take ?_ (by rfl) ?_ ?_; rotate_left; (· rintro w9 ⟨u0, u1, u2, u3, u4, u5, u6⟩; go_simp; (try rw [if_neg (by omega)]); all_goals (with_reducible rfl)); simp only [Act.put, List.setIfInBounds_toArray, List.set_cons_zero, List.set_cons_succ]) | (refine Plan.pass (by rfl) ?_; simp only [Act.put, List.setIfInBounds_toArray, List.set_cons_zero, List.set_cons_succ]))
          refine Plan.ends ?_
          have hqf := (setRow_other (w5.drew.setRow (w.heap.size + 2) #[.slice (some x) n c]) (w.heap.size + 3) (w.heap.size + 2) #[.int .i64 yb, .int .i64 yk, .int .i64 yv, .int .i64 ym, .int .i64 yz, .int .i64 yo] (by omega)).trans (setRow_heap w5.drew (w.heap.size + 2) _ #[.slice (some x) n c] _ _ (show w5.drew.heap[w.heap.size + 2]? = _ from hq5))
          have hrf := setRow_heap (w5.drew.setRow (w.heap.size + 2) #[.slice (some x) n c]) (w.heap.size + 3) _ #[.int .i64 yb, .int .i64 yk, .int .i64 yv, .int .i64 ym, .int .i64 yz, .int .i64 yo] _ _ hr6
          have bf := below_setRow (below_setRow b5.drew (show w.heap.size ≤ w.heap.size + 2 by omega) #[.slice (some x) n c]) (show w.heap.size ≤ w.heap.size + 3 by omega) #[.int .i64 yb, .int .i64 yk, .int .i64 yv, .int .i64 ym, .int .i64 yz, .int .i64 yo]
          have M9 := HEND.out _ b5.drew #[.slice (some x) n c] #[.int .i64 yb, .int .i64 yk, .int .i64 yv, .int .i64 ym, .int .i64 yz, .int .i64 yo]
          generalize (w5.drew.setRow (w.heap.size + 2) #[.slice (some x) n c]).setRow (w.heap.size + 3) #[.int .i64 yb, .int .i64 yk, .int .i64 yv, .int .i64 ym, .int .i64 yz, .int .i64 yo] = w9 at *
          clear hx5 hp5 hq5 hr5 ho5 hx6 ho6 hr6 hx7 ho7 l5 M5
          go_wp2_with fail
          exact bodyPost_ret (results_cct (p := 4) (q := 5) (r := 6) rfl _ _ _ _ _ _ _ _ _ _ _ _ rfl rfl hqf Try.underlying24 rfl map_info hrf Try.underlying28 rfl entry_info) rfl ⟨_, _, _, rfl, M9, bf⟩
        · have hs2 : w.heap.size + 3 < w2.heap.size := e_lt hr2
          have hx3 : (w2.drew.alloc (entRow 0 0 0 0 0 0)).heap[w.heap.size]? = _ := e_al (show w2.drew.heap[w.heap.size]? = _ from hx2) (entRow 0 0 0 0 0 0)
          have hp3 : (w2.drew.alloc (entRow 0 0 0 0 0 0)).heap[w.heap.size + 1]? = _ := e_al (show w2.drew.heap[w.heap.size + 1]? = _ from hp2) (entRow 0 0 0 0 0 0)
          have hq3 : (w2.drew.alloc (entRow 0 0 0 0 0 0)).heap[w.heap.size + 2]? = _ := e_al (show w2.drew.heap[w.heap.size + 2]? = _ from hq2) (entRow 0 0 0 0 0 0)
          have hr3 : (w2.drew.alloc (entRow 0 0 0 0 0 0)).heap[w.heap.size + 3]? = _ := e_al (show w2.drew.heap[w.heap.size + 3]? = _ from hr2) (entRow 0 0 0 0 0 0)
          have ho3 : (w2.drew.alloc (entRow 0 0 0 0 0 0)).heap[w2.heap.size]? = some (entRow 0 0 0 0 0 0) := heap_alloc_new w2.drew (entRow 0 0 0 0 0 0)
          have b3 : Below w.heap.size w (w2.drew.alloc (entRow 0 0 0 0 0 0)) := b2'.alloc b2'.size (entRow 0 0 0 0 0 0)
          have hcx3 := HCW.out _ b3
          refine Tree.wp_make (.pointer (some ⟨w2.heap.size, 0, none⟩)) (w2.drew.alloc (entRow 0 0 0 0 0 0)) ?_ ⟨⟨map_row hx3, hcx3, entry_row hp3⟩, ?_⟩
          · go_simp
          simp only [Act.put, List.setIfInBounds_toArray, List.set_cons_zero, List.set_cons_succ]
          refine Tree.only (by rfl) ?_
          refine Tree.wp_call 36 _ ?_ (HIN.out _ b3) ?_
          · go_simp
          rintro e9 w4 ⟨a3, n3, c3, rfl, l3, hb4⟩
          have hx4 := e_on hb4 hx3 (e_lt hx3)
          have hp4 := e_on hb4 hp3 (e_lt hp3)
          have hq4 := e_on hb4 hq3 (e_lt hq3)
          have hr4 := e_on hb4 hr3 (e_lt hr3)
          have ho4 := e_on hb4 ho3 (e_lt ho3)
          have b4 := b3.trans (hb4.mono b3.size)
          have hcx4 := HCW.out _ b4
          have hsz4 : w2.heap.size + 1 ≤ w4.heap.size := by have := hb4.size; simp only [World.size_alloc] at this; exact this
          refine ⟨_, rfl, ⟨map_row hx4, hcx4, entry_row hp4⟩, ?_⟩
          simp only [Act.put, List.setIfInBounds_toArray, List.set_cons_zero, List.set_cons_succ]
          repeat (first | (refine Tree.take ?_ (by rfl) ?_ ?_; rotate_left; (· rintro w9 ⟨u0, u1, u2, u3, u4, u5, u6, u7⟩; go_simp; (try rw [if_neg (by omega)]); all_goals (with_reducible rfl)); simp only [Act.put, List.setIfInBounds_toArray, List.set_cons_zero, List.set_cons_succ]))
          have hx5 := (setRow_other w4 w2.heap.size w.heap.size #[.int .i64 yb, .int .i64 yk, .int .i64 yv, .int .i64 ym, .int .i64 yz, .int .i64 yo] (by omega)).trans hx4
          have hp5 := (setRow_other w4 w2.heap.size (w.heap.size + 1) #[.int .i64 yb, .int .i64 yk, .int .i64 yv, .int .i64 ym, .int .i64 yz, .int .i64 yo] (by omega)).trans hp4
          have hq5 := (setRow_other w4 w2.heap.size (w.heap.size + 2) #[.int .i64 yb, .int .i64 yk, .int .i64 yv, .int .i64 ym, .int .i64 yz, .int .i64 yo] (by omega)).trans hq4
          have hr5 := (setRow_other w4 w2.heap.size (w.heap.size + 3) #[.int .i64 yb, .int .i64 yk, .int .i64 yv, .int .i64 ym, .int .i64 yz, .int .i64 yo] (by omega)).trans hr4
          have ho5 := setRow_heap w4 w2.heap.size _ #[.int .i64 yb, .int .i64 yk, .int .i64 yv, .int .i64 ym, .int .i64 yz, .int .i64 yo] _ _ ho4
          have b5 := below_setRow b4 (show w.heap.size ≤ w2.heap.size by omega) #[.int .i64 yb, .int .i64 yk, .int .i64 yv, .int .i64 ym, .int .i64 yz, .int .i64 yo]
          have l5 := (l3.on (Same.row (r := w2.heap.size) (fun h9 => by rcases h9 with h9 | h9; (· have := h9.2; omega); (· simp only [World.size_alloc] at h9; exact absurd h9 (by show ¬ w2.heap.size + 1 ≤ w2.heap.size; omega))) #[.int .i64 yb, .int .i64 yk, .int .i64 yv, .int .i64 ym, .int .i64 yz, .int .i64 yo])).mono (G := Keep F w.heap.size) (fun b _ h9 => keep_of h9 (show w.heap.size + 3 < (w2.drew.alloc (entRow 0 0 0 0 0 0)).heap.size by simp only [World.size_alloc]; show w.heap.size + 3 < w2.heap.size + 1; omega))
          have M5 := (HM.out _ b5).mono (G := Keep F w.heap.size) (fun b _ h9 => keep_low h9)
          have hcx5 := HCW.out _ b5
          refine Tree.only (by rfl) (wp_store_row 28 _ _ rfl w2.heap.size #[.int .i64 yb, .int .i64 yk, .int .i64 yv, .int .i64 ym, .int .i64 yz, .int .i64 yo] (by rfl) (by rfl) 28 _ ho4 entry_info rfl (by simp [Value.oneCell']) ⟨⟨map_row hx5, hcx5, entry_row hp5⟩, ?_⟩)
          simp only [Act.put]
          repeat (first | (refine Tree.take ?_ (by rfl) ?_ ?_; rotate_left; (· rintro w9 ⟨u0, u1, u2, u3, u4, u5, u6, u7⟩; go_simp; (try rw [if_neg (by omega)]); all_goals (with_reducible rfl)); simp only [Act.put, List.setIfInBounds_toArray, List.set_cons_zero, List.set_cons_succ]))
          refine Tree.ends ?_
          generalize w4.setRow w2.heap.size #[.int .i64 yb, .int .i64 yk, .int .i64 yv, .int .i64 ym, .int .i64 yz, .int .i64 yo] = w5 at *
          clear hx2 hp2 hq2 hr2 hx3 hp3 hq3 hr3 hx4 hp4 hq4 hr4 ho3 ho4 hcx hcx3 hcx4 hcx5 l3 hc2
          go_wp2_with fail
          refine Plan.start (fun W => W.cell? ⟨w.heap.size, 0, none⟩ = some (.slice (some x) n c) ∧ Six W w2.heap.size yb yk yv ym yz yo) [(0, true), (1, true), (2, false), (3, false), (4, true)] (by kernel_rfl) (by kernel_rfl) (by kernel_rfl) (by kernel_rfl) ⟨map_row hx5, entry_row ho5⟩ ?_
          simp only [List.map_cons, List.map_nil, List.getElem?_toArray, List.getElem?_cons_zero, List.getElem?_cons_succ]
          repeat (first | (refine Plan.take ?_ (by rfl) ?_ ?_; rotate_left; (· rintro w9 ⟨u0, u1, u2, u3, u4, u5, u6⟩; go_simp; (try rw [if_neg (by omega)]); all_goals (with_reducible rfl)); simp only [Act.put, List.setIfInBounds_toArray, List.set_cons_zero, List.set_cons_succ]) | (refine Plan.pass (by rfl) ?_; simp only [Act.put, List.setIfInBounds_toArray, List.set_cons_zero, List.set_cons_succ]))
          have hx6 := (setRow_other w5.drew (w.heap.size + 2) w.heap.size #[.slice (some x) n c] (by omega)).trans (show w5.drew.heap[w.heap.size]? = _ from hx5)
          have ho6 := (setRow_other w5.drew (w.heap.size + 2) w2.heap.size #[.slice (some x) n c] (by omega)).trans (show w5.drew.heap[w2.heap.size]? = _ from ho5)
          have hr6 := (setRow_other w5.drew (w.heap.size + 2) (w.heap.size + 3) #[.slice (some x) n c] (by omega)).trans (show w5.drew.heap[w.heap.size + 3]? = _ from hr5)
          refine Plan.store (by rfl) 24 (.tmp 4) (.tmp 38) rfl (w.heap.size + 2) #[.slice (some x) n c] rfl rfl 24 _ (show w5.drew.heap[w.heap.size + 2]? = _ from hq5) map_info rfl (by simp [Value.oneCell']) ⟨map_row hx6, entry_row ho6⟩ ?_
          simp only [Act.put]
          have hx7 := (setRow_other (w5.drew.setRow (w.heap.size + 2) #[.slice (some x) n c]) (w.heap.size + 3) w.heap.size #[.int .i64 yb, .int .i64 yk, .int .i64 yv, .int .i64 ym, .int .i64 yz, .int .i64 yo] (by omega)).trans hx6
          have ho7 := (setRow_other (w5.drew.setRow (w.heap.size + 2) #[.slice (some x) n c]) (w.heap.size + 3) w2.heap.size #[.int .i64 yb, .int .i64 yk, .int .i64 yv, .int .i64 ym, .int .i64 yz, .int .i64 yo] (by omega)).trans ho6
          refine Plan.store (by rfl) 28 (.tmp 5) (.tmp 39) rfl (w.heap.size + 3) #[.int .i64 yb, .int .i64 yk, .int .i64 yv, .int .i64 ym, .int .i64 yz, .int .i64 yo] rfl rfl 28 _ hr6 entry_info rfl (by simp [Value.oneCell']) ⟨map_row hx7, entry_row ho7⟩ ?_
          simp only [Act.put]
          repeat (first | (refine Plan.take ?_ (by rfl) ?_ ?_; rotate_left; (· rintro w9 ⟨u0, u1, u2, u3, u4, u5, u6⟩; go_simp; (try rw [if_neg (by omega)]); all_goals (with_reducible rfl)); simp only [Act.put, List.setIfInBounds_toArray, List.set_cons_zero, List.set_cons_succ]) | (refine Plan.pass (by rfl) ?_; simp only [Act.put, List.setIfInBounds_toArray, List.set_cons_zero, List.set_cons_succ]))
          refine Plan.ends ?_
          have hqf := (setRow_other (w5.drew.setRow (w.heap.size + 2) #[.slice (some x) n c]) (w.heap.size + 3) (w.heap.size + 2) #[.int .i64 yb, .int .i64 yk, .int .i64 yv, .int .i64 ym, .int .i64 yz, .int .i64 yo] (by omega)).trans (setRow_heap w5.drew (w.heap.size + 2) _ #[.slice (some x) n c] _ _ (show w5.drew.heap[w.heap.size + 2]? = _ from hq5))
          have hrf := setRow_heap (w5.drew.setRow (w.heap.size + 2) #[.slice (some x) n c]) (w.heap.size + 3) _ #[.int .i64 yb, .int .i64 yk, .int .i64 yv, .int .i64 ym, .int .i64 yz, .int .i64 yo] _ _ hr6
          have bf := below_setRow (below_setRow b5.drew (show w.heap.size ≤ w.heap.size + 2 by omega) #[.slice (some x) n c]) (show w.heap.size ≤ w.heap.size + 3 by omega) #[.int .i64 yb, .int .i64 yk, .int .i64 yv, .int .i64 ym, .int .i64 yz, .int .i64 yo]
          have M9 := HEND.out _ b5.drew #[.slice (some x) n c] #[.int .i64 yb, .int .i64 yk, .int .i64 yv, .int .i64 ym, .int .i64 yz, .int .i64 yo]
          generalize (w5.drew.setRow (w.heap.size + 2) #[.slice (some x) n c]).setRow (w.heap.size + 3) #[.int .i64 yb, .int .i64 yk, .int .i64 yv, .int .i64 ym, .int .i64 yz, .int .i64 yo] = w9 at *
          clear hx5 hp5 hq5 hr5 ho5 hx6 ho6 hr6 hx7 ho7 l5 M5
          go_wp2_with fail
          exact bodyPost_ret (results_cct (p := 4) (q := 5) (r := 6) rfl _ _ _ _ _ _ _ _ _ _ _ _ rfl rfl hqf Try.underlying24 rfl map_info hrf Try.underlying28 rfl entry_info) rfl ⟨_, _, _, rfl, M9, bf⟩
      · rw [if_pos rfl]
        go_enter Try.func20, Try.ntmps20
        have hc0 := map_row hx0
        obtain ⟨c0, c1, c2, c3, c4, c5⟩ := entry_row hp0
        generalize hw0 : (((w.alloc (mapRow (some x) n c)).alloc (entRow eb ek ev em ez eo)).alloc (mapRow none 0 0)).alloc (entRow 0 0 0 0 0 0) = w0 at *
        go_wp2_with (first
          | (go_at_call 28; ((with_reducible refine (HV.out _ hA).mono ?_); rintro e9 w1 ⟨rfl, hb1⟩; have hx1 := e_on hb1 hx0 (e_lt hx0); have hp1 := e_on hb1 hp0 (e_lt hp0); have hq1 := e_on hb1 hq0 (e_lt hq0); have hr1 := e_on hb1 hr0 (e_lt hr0); have hc1 := map_row hx1; clear c0 c1 c2 c3 c4 c5; obtain ⟨c0, c1, c2, c3, c4, c5⟩ := entry_row hp1; clear hc0; have b1 := hA.trans (hb1.mono hA.size)))
          | (go_at_call 30; ((with_reducible refine (HS.out _).mono ?_); rintro e9 w2 ⟨rfl, hb2⟩; have hx2 := e_on hb2 hx1 (e_lt hx1); have hp2 := e_on hb2 hp1 (e_lt hp1); have hq2 := e_on hb2 hq1 (e_lt hq1); have hr2 := e_on hb2 hr1 (e_lt hr1); have hc2 := map_row hx2; clear c0 c1 c2 c3 c4 c5; obtain ⟨c0, c1, c2, c3, c4, c5⟩ := entry_row hp2; clear hc1; have b2 := b1.trans (hb2.mono b1.size))))
        have hcx := HCW.out _ b2
        have b2' := b2.drew
        clear c0 c1 c2 c3 c4 c5
        refine Tree.start (fun W => W.cell? ⟨w.heap.size, 0, none⟩ = some (.slice (some x) n c) ∧ W.cell? (x.add k) = some (.slice b' m' kk) ∧ Six W (w.heap.size + 1) eb ek ev em ez eo) (.take 0 (.take 1 (.take 2 (.take 3 (.take 4 (.take 5 (.fork 6 (.take 7 (.take 8 (.take 9 (.take 10 (.only 11 (.take 12 (.only 13 (.take 14 (.done))))))))) 11 (.only 6 (.take 7 (.take 8 (.take 9 (.take 10 (.take 12 (.only 13 (.take 14 (.done))))))))))))))) ) (by kernel_rfl) (by kernel_rfl) (by kernel_rfl) (by kernel_rfl) ⟨hc2, hcx, entry_row hp2⟩ ?_
        simp only [Tree.T.map, List.getElem?_toArray, List.getElem?_cons_zero, List.getElem?_cons_succ]
        repeat (first | (refine Tree.take ?_ (by rfl) ?_ ?_; rotate_left; (· rintro w9 ⟨u0, u1, u2, u3, u4, u5, u6, u7⟩; go_simp; (try rw [if_neg (by omega)]); all_goals (with_reducible rfl)); simp only [Act.put, List.setIfInBounds_toArray, List.set_cons_zero, List.set_cons_succ]))
        refine Tree.fork (by rfl) (by rfl) ?_ ?_
        · refine Tree.wp_call 36 _ ?_ (HIN.out _ b2') ?_
          · go_simp
          rintro e9 w3 ⟨a3, n3, c3, rfl, l3, hb3⟩
          have hx3 := e_on hb3 (show w2.drew.heap[w.heap.size]? = _ from hx2) (e_lt hx2)
          have hp3 := e_on hb3 (show w2.drew.heap[w.heap.size + 1]? = _ from hp2) (e_lt hp2)
          have hq3 := e_on hb3 (show w2.drew.heap[w.heap.size + 2]? = _ from hq2) (e_lt hq2)
          have hr3 := e_on hb3 (show w2.drew.heap[w.heap.size + 3]? = _ from hr2) (e_lt hr2)
          have b3 := b2'.trans (hb3.mono b2'.size)
          have hcx3 := HCW.out _ b3
          refine ⟨_, rfl, ⟨map_row hx3, hcx3, entry_row hp3⟩, ?_⟩
          simp only [Act.put, List.setIfInBounds_toArray, List.set_cons_zero, List.set_cons_succ]
          repeat (first | (refine Tree.take ?_ (by rfl) ?_ ?_; rotate_left; (· rintro w9 ⟨u0, u1, u2, u3, u4, u5, u6, u7⟩; go_simp; (try rw [if_neg (by omega)]); all_goals (with_reducible rfl)); simp only [Act.put, List.setIfInBounds_toArray, List.set_cons_zero, List.set_cons_succ]))
          have hsz3 : w2.heap.size ≤ w3.heap.size := hb3.size
          have hx4 := e_al hx3 (entRow 0 0 0 0 0 0)
          have hp4 := e_al hp3 (entRow 0 0 0 0 0 0)
          have hq4 := e_al hq3 (entRow 0 0 0 0 0 0)
          have hr4 := e_al hr3 (entRow 0 0 0 0 0 0)
          have ho4 := heap_alloc_new w3 (entRow 0 0 0 0 0 0)
          have b4 := b3.alloc b3.size (entRow 0 0 0 0 0 0)
          have hcx4 := HCW.out _ b4
          refine Tree.only (by rfl) ?_
          refine Tree.wp_make (.pointer (some ⟨w3.heap.size, 0, none⟩)) (w3.alloc (entRow 0 0 0 0 0 0)) ?_ ⟨⟨map_row hx4, hcx4, entry_row hp4⟩, ?_⟩
          · go_simp
          simp only [Act.put, List.setIfInBounds_toArray, List.set_cons_zero, List.set_cons_succ]
          repeat (first | (refine Tree.take ?_ (by rfl) ?_ ?_; rotate_left; (· rintro w9 ⟨u0, u1, u2, u3, u4, u5, u6, u7⟩; go_simp; (try rw [if_neg (by omega)]); all_goals (with_reducible rfl)); simp only [Act.put, List.setIfInBounds_toArray, List.set_cons_zero, List.set_cons_succ]))
          have hlt3 : w.heap.size + 3 < w3.heap.size := e_lt hr3
          have hx5 := (setRow_other (w3.alloc (entRow 0 0 0 0 0 0)) w3.heap.size w.heap.size #[.int .i64 yb, .int .i64 yk, .int .i64 yv, .int .i64 ym, .int .i64 yz, .int .i64 yo] (by omega)).trans hx4
          have hp5 := (setRow_other (w3.alloc (entRow 0 0 0 0 0 0)) w3.heap.size (w.heap.size + 1) #[.int .i64 yb, .int .i64 yk, .int .i64 yv, .int .i64 ym, .int .i64 yz, .int .i64 yo] (by omega)).trans hp4
          have hq5 := (setRow_other (w3.alloc (entRow 0 0 0 0 0 0)) w3.heap.size (w.heap.size + 2) #[.int .i64 yb, .int .i64 yk, .int .i64 yv, .int .i64 ym, .int .i64 yz, .int .i64 yo] (by omega)).trans hq4
          have hr5 := (setRow_other (w3.alloc (entRow 0 0 0 0 0 0)) w3.heap.size (w.heap.size + 3) #[.int .i64 yb, .int .i64 yk, .int .i64 yv, .int .i64 ym, .int .i64 yz, .int .i64 yo] (by omega)).trans hr4
          have ho5 := setRow_heap (w3.alloc (entRow 0 0 0 0 0 0)) w3.heap.size _ #[.int .i64 yb, .int .i64 yk, .int .i64 yv, .int .i64 ym, .int .i64 yz, .int .i64 yo] _ _ ho4
          have b5 := below_setRow b4 (show w.heap.size ≤ w3.heap.size by omega) #[.int .i64 yb, .int .i64 yk, .int .i64 yv, .int .i64 ym, .int .i64 yz, .int .i64 yo]
          have l5 := (l3.cut.on ((Same.alloc w3 (entRow 0 0 0 0 0 0)).trans (Same.row (r := w3.heap.size) (fun h9 => by have := h9.2; omega) #[.int .i64 yb, .int .i64 yk, .int .i64 yv, .int .i64 ym, .int .i64 yz, .int .i64 yo]))).mono (G := Keep F w.heap.size) (fun b _ h9 => keep_of h9.1 (show w.heap.size + 3 < w2.heap.size from e_lt hr2))
          have M5 := (HM.out _ b5).mono (G := Keep F w.heap.size) (fun b _ h9 => keep_low h9)
          have hcx5 := HCW.out _ b5
          refine Tree.only (by rfl) (wp_store_row 28 _ _ rfl w3.heap.size #[.int .i64 yb, .int .i64 yk, .int .i64 yv, .int .i64 ym, .int .i64 yz, .int .i64 yo] (by rfl) (by rfl) 28 _ ho4 entry_info rfl (by simp [Value.oneCell']) ⟨⟨map_row hx5, hcx5, entry_row hp5⟩, ?_⟩)
          simp only [Act.put]
          repeat (first | (refine Tree.take ?_ (by rfl) ?_ ?_; rotate_left; (· rintro w9 ⟨u0, u1, u2, u3, u4, u5, u6, u7⟩; go_simp; (try rw [if_neg (by omega)]); all_goals (with_reducible rfl)); simp only [Act.put, List.setIfInBounds_toArray, List.set_cons_zero, List.set_cons_succ]))
          refine Tree.ends ?_
          generalize (w3.alloc (entRow 0 0 0 0 0 0)).setRow w3.heap.size #[.int .i64 yb, .int .i64 yk, .int .i64 yv, .int .i64 ym, .int .i64 yz, .int .i64 yo] = w5 at *
          clear hx2 hp2 hq2 hr2 hx3 hp3 hq3 hr3 hx4 hp4 hq4 hr4 ho4 hcx hcx3 hcx4 hcx5 l3 hc2
          go_wp2_with fail
          have HW := Lib.hid (refWithM_any _ Ls (some x) n c k RL a3 n3 c3 w5.drew (M5.on ⟨Nat.le_refl _, fun _ _ _ => rfl⟩) hkn (l5.on ⟨Nat.le_refl _, fun _ _ _ => rfl⟩) (by omega))
          refine Plan.start (fun W => W.cell? ⟨w.heap.size, 0, none⟩ = some (.slice (some x) n c) ∧ Six W w3.heap.size yb yk yv ym yz yo) [(0, true), (1, true), (2, true), (4, true), (3, false), (5, false), (6, false), (7, true)] (by kernel_rfl) (by kernel_rfl) (by kernel_rfl) (by kernel_rfl) ⟨map_row hx5, entry_row ho5⟩ ?_
          simp only [List.map_cons, List.map_nil, List.getElem?_toArray, List.getElem?_cons_zero, List.getElem?_cons_succ]
          repeat (first | (refine Plan.take ?_ (by rfl) ?_ ?_; rotate_left; (· rintro w9 ⟨u0, u1, u2, u3, u4, u5, u6⟩; go_simp; (try rw [if_neg (by omega)]); all_goals (with_reducible rfl)); simp only [Act.put, List.setIfInBounds_toArray, List.set_cons_zero, List.set_cons_succ]) | (refine Plan.pass (by rfl) ?_; simp only [Act.put, List.setIfInBounds_toArray, List.set_cons_zero, List.set_cons_succ]))
          refine Plan.call (by rfl) 37 _ ?_ HW.out ?_
          · go_simp
          rintro e9 w6 ⟨g6, c6, rfl, l6, hb6⟩
          have hx6 := e_on hb6 (show w5.drew.heap[w.heap.size]? = _ from hx5) (e_lt hx5)
          have ho6 := e_on hb6 (show w5.drew.heap[w3.heap.size]? = _ from ho5) (e_lt ho5)
          have hq6 := e_on hb6 (show w5.drew.heap[w.heap.size + 2]? = _ from hq5) (e_lt hq5)
          have hr6 := e_on hb6 (show w5.drew.heap[w.heap.size + 3]? = _ from hr5) (e_lt hr5)
          have b6 := b5.drew.trans (hb6.mono b5.drew.size)
          have hs5 : w.heap.size + 3 < w5.heap.size := e_lt hr5
          refine ⟨_, rfl, ⟨map_row hx6, entry_row ho6⟩, ?_⟩
          simp only [Act.put, List.setIfInBounds_toArray, List.set_cons_zero, List.set_cons_succ]
          repeat (first | (refine Plan.take ?_ (by rfl) ?_ ?_; rotate_left; (· rintro w9 ⟨u0, u1, u2, u3, u4, u5, u6⟩; go_simp; (try rw [if_neg (by omega)]); all_goals (with_reducible rfl)); simp only [Act.put, List.setIfInBounds_toArray, List.set_cons_zero, List.set_cons_succ]) | (refine Plan.pass (by rfl) ?_; simp only [Act.put, List.setIfInBounds_toArray, List.set_cons_zero, List.set_cons_succ]))
          have hx7 := (setRow_other w6 (w.heap.size + 2) w.heap.size #[.slice (some ⟨g6, 0, none⟩) n c6] (by omega)).trans hx6
          have ho7 := (setRow_other w6 (w.heap.size + 2) w3.heap.size #[.slice (some ⟨g6, 0, none⟩) n c6] (by omega)).trans ho6
          have hr7 := (setRow_other w6 (w.heap.size + 2) (w.heap.size + 3) #[.slice (some ⟨g6, 0, none⟩) n c6] (by omega)).trans hr6
          refine Plan.store (by rfl) 24 (.tmp 4) (.tmp 43) rfl (w.heap.size + 2) #[.slice (some ⟨g6, 0, none⟩) n c6] rfl rfl 24 _ hq6 map_info rfl (by simp [Value.oneCell']) ⟨map_row hx7, entry_row ho7⟩ ?_
          simp only [Act.put]
          have hx8 := (setRow_other (w6.setRow (w.heap.size + 2) #[.slice (some ⟨g6, 0, none⟩) n c6]) (w.heap.size + 3) w.heap.size #[.int .i64 yb, .int .i64 yk, .int .i64 yv, .int .i64 ym, .int .i64 yz, .int .i64 yo] (by omega)).trans hx7
          have ho8 := (setRow_other (w6.setRow (w.heap.size + 2) #[.slice (some ⟨g6, 0, none⟩) n c6]) (w.heap.size + 3) w3.heap.size #[.int .i64 yb, .int .i64 yk, .int .i64 yv, .int .i64 ym, .int .i64 yz, .int .i64 yo] (by omega)).trans ho7
          refine Plan.store (by rfl) 28 (.tmp 5) (.tmp 44) rfl (w.heap.size + 3) #[.int .i64 yb, .int .i64 yk, .int .i64 yv, .int .i64 ym, .int .i64 yz, .int .i64 yo] rfl rfl 28 _ hr7 entry_info rfl (by simp [Value.oneCell']) ⟨map_row hx8, entry_row ho8⟩ ?_
          simp only [Act.put]
          repeat (first | (refine Plan.take ?_ (by rfl) ?_ ?_; rotate_left; (· rintro w9 ⟨u0, u1, u2, u3, u4, u5, u6⟩; go_simp; (try rw [if_neg (by omega)]); all_goals (with_reducible rfl)); simp only [Act.put, List.setIfInBounds_toArray, List.set_cons_zero, List.set_cons_succ]) | (refine Plan.pass (by rfl) ?_; simp only [Act.put, List.setIfInBounds_toArray, List.set_cons_zero, List.set_cons_succ]))
          refine Plan.ends ?_
          have hqf := (setRow_other (w6.setRow (w.heap.size + 2) #[.slice (some ⟨g6, 0, none⟩) n c6]) (w.heap.size + 3) (w.heap.size + 2) #[.int .i64 yb, .int .i64 yk, .int .i64 yv, .int .i64 ym, .int .i64 yz, .int .i64 yo] (by omega)).trans (setRow_heap w6 (w.heap.size + 2) _ #[.slice (some ⟨g6, 0, none⟩) n c6] _ _ hq6)
          have hrf := setRow_heap (w6.setRow (w.heap.size + 2) #[.slice (some ⟨g6, 0, none⟩) n c6]) (w.heap.size + 3) _ #[.int .i64 yb, .int .i64 yk, .int .i64 yv, .int .i64 ym, .int .i64 yz, .int .i64 yo] _ _ hr7
          have bf := below_setRow (below_setRow b6 (show w.heap.size ≤ w.heap.size + 2 by omega) #[.slice (some ⟨g6, 0, none⟩) n c6]) (show w.heap.size ≤ w.heap.size + 3 by omega) #[.int .i64 yb, .int .i64 yk, .int .i64 yv, .int .i64 ym, .int .i64 yz, .int .i64 yo]
          have M9 := ((l6.on (Same.row (r := w.heap.size + 2) (fun h9 => (keep_new h9 hs5).1 rfl) #[.slice (some ⟨g6, 0, none⟩) n c6])).on (Same.row (r := w.heap.size + 3) (fun h9 => (keep_new h9 hs5).2.1 rfl) #[.int .i64 yb, .int .i64 yk, .int .i64 yv, .int .i64 ym, .int .i64 yz, .int .i64 yo])).mono (G := Plus F w.heap.size) (fun b _ h9 => (keep_new h9 hs5).2.2)
          generalize (w6.setRow (w.heap.size + 2) #[.slice (some ⟨g6, 0, none⟩) n c6]).setRow (w.heap.size + 3) #[.int .i64 yb, .int .i64 yk, .int .i64 yv, .int .i64 ym, .int .i64 yz, .int .i64 yo] = w9 at *
          clear hx5 hp5 hq5 hr5 ho5 hx6 ho6 hq6 hr6 hx7 ho7 hr7 hx8 ho8 l5 M5 l6
          go_wp2_with fail
          exact bodyPost_ret (results_cct (p := 4) (q := 5) (r := 6) rfl _ _ _ _ _ _ _ _ _ _ _ _ rfl rfl hqf Try.underlying24 rfl map_info hrf Try.underlying28 rfl entry_info) rfl ⟨_, _, _, rfl, M9, bf⟩
        · have hs2 : w.heap.size + 3 < w2.heap.size := e_lt hr2
          have hx3 : (w2.drew.alloc (entRow 0 0 0 0 0 0)).heap[w.heap.size]? = _ := e_al (show w2.drew.heap[w.heap.size]? = _ from hx2) (entRow 0 0 0 0 0 0)
          have hp3 : (w2.drew.alloc (entRow 0 0 0 0 0 0)).heap[w.heap.size + 1]? = _ := e_al (show w2.drew.heap[w.heap.size + 1]? = _ from hp2) (entRow 0 0 0 0 0 0)
          have hq3 : (w2.drew.alloc (entRow 0 0 0 0 0 0)).heap[w.heap.size + 2]? = _ := e_al (show w2.drew.heap[w.heap.size + 2]? = _ from hq2) (entRow 0 0 0 0 0 0)
          have hr3 : (w2.drew.alloc (entRow 0 0 0 0 0 0)).heap[w.heap.size + 3]? = _ := e_al (show w2.drew.heap[w.heap.size + 3]? = _ from hr2) (entRow 0 0 0 0 0 0)
          have ho3 : (w2.drew.alloc (entRow 0 0 0 0 0 0)).heap[w2.heap.size]? = some (entRow 0 0 0 0 0 0) := heap_alloc_new w2.drew (entRow 0 0 0 0 0 0)
          have b3 : Below w.heap.size w (w2.drew.alloc (entRow 0 0 0 0 0 0)) := b2'.alloc b2'.size (entRow 0 0 0 0 0 0)
          have hcx3 := HCW.out _ b3
          refine Tree.wp_make (.pointer (some ⟨w2.heap.size, 0, none⟩)) (w2.drew.alloc (entRow 0 0 0 0 0 0)) ?_ ⟨⟨map_row hx3, hcx3, entry_row hp3⟩, ?_⟩
          · go_simp
          simp only [Act.put, List.setIfInBounds_toArray, List.set_cons_zero, List.set_cons_succ]
          refine Tree.only (by rfl) ?_
          refine Tree.wp_call 36 _ ?_ (HIN.out _ b3) ?_
          · go_simp
          rintro e9 w4 ⟨a3, n3, c3, rfl, l3, hb4⟩
          have hx4 := e_on hb4 hx3 (e_lt hx3)
          have hp4 := e_on hb4 hp3 (e_lt hp3)
          have hq4 := e_on hb4 hq3 (e_lt hq3)
          have hr4 := e_on hb4 hr3 (e_lt hr3)
          have ho4 := e_on hb4 ho3 (e_lt ho3)
          have b4 := b3.trans (hb4.mono b3.size)
          have hcx4 := HCW.out _ b4
          have hsz4 : w2.heap.size + 1 ≤ w4.heap.size := by have := hb4.size; simp only [World.size_alloc] at this; exact this
          refine ⟨_, rfl, ⟨map_row hx4, hcx4, entry_row hp4⟩, ?_⟩
          simp only [Act.put, List.setIfInBounds_toArray, List.set_cons_zero, List.set_cons_succ]
          repeat (first | (refine Tree.take ?_ (by rfl) ?_ ?_; rotate_left; (· rintro w9 ⟨u0, u1, u2, u3, u4, u5, u6, u7⟩; go_simp; (try rw [if_neg (by omega)]); all_goals (with_reducible rfl)); simp only [Act.put, List.setIfInBounds_toArray, List.set_cons_zero, List.set_cons_succ]))
          have hx5 := (setRow_other w4 w2.heap.size w.heap.size #[.int .i64 yb, .int .i64 yk, .int .i64 yv, .int .i64 ym, .int .i64 yz, .int .i64 yo] (by omega)).trans hx4
          have hp5 := (setRow_other w4 w2.heap.size (w.heap.size + 1) #[.int .i64 yb, .int .i64 yk, .int .i64 yv, .int .i64 ym, .int .i64 yz, .int .i64 yo] (by omega)).trans hp4
          have hq5 := (setRow_other w4 w2.heap.size (w.heap.size + 2) #[.int .i64 yb, .int .i64 yk, .int .i64 yv, .int .i64 ym, .int .i64 yz, .int .i64 yo] (by omega)).trans hq4
          have hr5 := (setRow_other w4 w2.heap.size (w.heap.size + 3) #[.int .i64 yb, .int .i64 yk, .int .i64 yv, .int .i64 ym, .int .i64 yz, .int .i64 yo] (by omega)).trans hr4
          have ho5 := setRow_heap w4 w2.heap.size _ #[.int .i64 yb, .int .i64 yk, .int .i64 yv, .int .i64 ym, .int .i64 yz, .int .i64 yo] _ _ ho4
          have b5 := below_setRow b4 (show w.heap.size ≤ w2.heap.size by omega) #[.int .i64 yb, .int .i64 yk, .int .i64 yv, .int .i64 ym, .int .i64 yz, .int .i64 yo]
          have l5 := (l3.on (Same.row (r := w2.heap.size) (fun h9 => by rcases h9 with h9 | h9; (· have := h9.2; omega); (· simp only [World.size_alloc] at h9; exact absurd h9 (by show ¬ w2.heap.size + 1 ≤ w2.heap.size; omega))) #[.int .i64 yb, .int .i64 yk, .int .i64 yv, .int .i64 ym, .int .i64 yz, .int .i64 yo])).mono (G := Keep F w.heap.size) (fun b _ h9 => keep_of h9 (show w.heap.size + 3 < (w2.drew.alloc (entRow 0 0 0 0 0 0)).heap.size by simp only [World.size_alloc]; show w.heap.size + 3 < w2.heap.size + 1; omega))
          have M5 := (HM.out _ b5).mono (G := Keep F w.heap.size) (fun b _ h9 => keep_low h9)
          have hcx5 := HCW.out _ b5
          refine Tree.only (by rfl) (wp_store_row 28 _ _ rfl w2.heap.size #[.int .i64 yb, .int .i64 yk, .int .i64 yv, .int .i64 ym, .int .i64 yz, .int .i64 yo] (by rfl) (by rfl) 28 _ ho4 entry_info rfl (by simp [Value.oneCell']) ⟨⟨map_row hx5, hcx5, entry_row hp5⟩, ?_⟩)
          simp only [Act.put]
          repeat (first | (refine Tree.take ?_ (by rfl) ?_ ?_; rotate_left; (· rintro w9 ⟨u0, u1, u2, u3, u4, u5, u6, u7⟩; go_simp; (try rw [if_neg (by omega)]); all_goals (with_reducible rfl)); simp only [Act.put, List.setIfInBounds_toArray, List.set_cons_zero, List.set_cons_succ]))
          refine Tree.ends ?_
          generalize w4.setRow w2.heap.size #[.int .i64 yb, .int .i64 yk, .int .i64 yv, .int .i64 ym, .int .i64 yz, .int .i64 yo] = w5 at *
          clear hx2 hp2 hq2 hr2 hx3 hp3 hq3 hr3 hx4 hp4 hq4 hr4 ho3 ho4 hcx hcx3 hcx4 hcx5 l3 hc2
          go_wp2_with fail
          have HW := Lib.hid (refWithM_any _ Ls (some x) n c k RL a3 n3 c3 w5.drew (M5.on ⟨Nat.le_refl _, fun _ _ _ => rfl⟩) hkn (l5.on ⟨Nat.le_refl _, fun _ _ _ => rfl⟩) (by omega))
          refine Plan.start (fun W => W.cell? ⟨w.heap.size, 0, none⟩ = some (.slice (some x) n c) ∧ Six W w2.heap.size yb yk yv ym yz yo) [(0, true), (1, true), (2, true), (4, true), (3, false), (5, false), (6, false), (7, true)] (by kernel_rfl) (by kernel_rfl) (by kernel_rfl) (by kernel_rfl) ⟨map_row hx5, entry_row ho5⟩ ?_
          simp only [List.map_cons, List.map_nil, List.getElem?_toArray, List.getElem?_cons_zero, List.getElem?_cons_succ]
          repeat (first | (refine Plan.take ?_ (by rfl) ?_ ?_; rotate_left; (· rintro w9 ⟨u0, u1, u2, u3, u4, u5, u6⟩; go_simp; (try rw [if_neg (by omega)]); all_goals (with_reducible rfl)); simp only [Act.put, List.setIfInBounds_toArray, List.set_cons_zero, List.set_cons_succ]) | (refine Plan.pass (by rfl) ?_; simp only [Act.put, List.setIfInBounds_toArray, List.set_cons_zero, List.set_cons_succ]))
          refine Plan.call (by rfl) 37 _ ?_ HW.out ?_
          · go_simp
          rintro e9 w6 ⟨g6, c6, rfl, l6, hb6⟩
          have hx6 := e_on hb6 (show w5.drew.heap[w.heap.size]? = _ from hx5) (e_lt hx5)
          have ho6 := e_on hb6 (show w5.drew.heap[w2.heap.size]? = _ from ho5) (e_lt ho5)
          have hq6 := e_on hb6 (show w5.drew.heap[w.heap.size + 2]? = _ from hq5) (e_lt hq5)
          have hr6 := e_on hb6 (show w5.drew.heap[w.heap.size + 3]? = _ from hr5) (e_lt hr5)
          have b6 := b5.drew.trans (hb6.mono b5.drew.size)
          have hs5 : w.heap.size + 3 < w5.heap.size := e_lt hr5
          refine ⟨_, rfl, ⟨map_row hx6, entry_row ho6⟩, ?_⟩
          simp only [Act.put, List.setIfInBounds_toArray, List.set_cons_zero, List.set_cons_succ]
          repeat (first | (refine Plan.take ?_ (by rfl) ?_ ?_; rotate_left; (· rintro w9 ⟨u0, u1, u2, u3, u4, u5, u6⟩; go_simp; (try rw [if_neg (by omega)]); all_goals (with_reducible rfl)); simp only [Act.put, List.setIfInBounds_toArray, List.set_cons_zero, List.set_cons_succ]) | (refine Plan.pass (by rfl) ?_; simp only [Act.put, List.setIfInBounds_toArray, List.set_cons_zero, List.set_cons_succ]))
          have hx7 := (setRow_other w6 (w.heap.size + 2) w.heap.size #[.slice (some ⟨g6, 0, none⟩) n c6] (by omega)).trans hx6
          have ho7 := (setRow_other w6 (w.heap.size + 2) w2.heap.size #[.slice (some ⟨g6, 0, none⟩) n c6] (by omega)).trans ho6
          have hr7 := (setRow_other w6 (w.heap.size + 2) (w.heap.size + 3) #[.slice (some ⟨g6, 0, none⟩) n c6] (by omega)).trans hr6
          refine Plan.store (by rfl) 24 (.tmp 4) (.tmp 43) rfl (w.heap.size + 2) #[.slice (some ⟨g6, 0, none⟩) n c6] rfl rfl 24 _ hq6 map_info rfl (by simp [Value.oneCell']) ⟨map_row hx7, entry_row ho7⟩ ?_
          simp only [Act.put]
          have hx8 := (setRow_other (w6.setRow (w.heap.size + 2) #[.slice (some ⟨g6, 0, none⟩) n c6]) (w.heap.size + 3) w.heap.size #[.int .i64 yb, .int .i64 yk, .int .i64 yv, .int .i64 ym, .int .i64 yz, .int .i64 yo] (by omega)).trans hx7
          have ho8 := (setRow_other (w6.setRow (w.heap.size + 2) #[.slice (some ⟨g6, 0, none⟩) n c6]) (w.heap.size + 3) w2.heap.size #[.int .i64 yb, .int .i64 yk, .int .i64 yv, .int .i64 ym, .int .i64 yz, .int .i64 yo] (by omega)).trans ho7
          refine Plan.store (by rfl) 28 (.tmp 5) (.tmp 44) rfl (w.heap.size + 3) #[.int .i64 yb, .int .i64 yk, .int .i64 yv, .int .i64 ym, .int .i64 yz, .int .i64 yo] rfl rfl 28 _ hr7 entry_info rfl (by simp [Value.oneCell']) ⟨map_row hx8, entry_row ho8⟩ ?_
          simp only [Act.put]
          repeat (first | (refine Plan.take ?_ (by rfl) ?_ ?_; rotate_left; (· rintro w9 ⟨u0, u1, u2, u3, u4, u5, u6⟩; go_simp; (try rw [if_neg (by omega)]); all_goals (with_reducible rfl)); simp only [Act.put, List.setIfInBounds_toArray, List.set_cons_zero, List.set_cons_succ]) | (refine Plan.pass (by rfl) ?_; simp only [Act.put, List.setIfInBounds_toArray, List.set_cons_zero, List.set_cons_succ]))
          refine Plan.ends ?_
          have hqf := (setRow_other (w6.setRow (w.heap.size + 2) #[.slice (some ⟨g6, 0, none⟩) n c6]) (w.heap.size + 3) (w.heap.size + 2) #[.int .i64 yb, .int .i64 yk, .int .i64 yv, .int .i64 ym, .int .i64 yz, .int .i64 yo] (by omega)).trans (setRow_heap w6 (w.heap.size + 2) _ #[.slice (some ⟨g6, 0, none⟩) n c6] _ _ hq6)
          have hrf := setRow_heap (w6.setRow (w.heap.size + 2) #[.slice (some ⟨g6, 0, none⟩) n c6]) (w.heap.size + 3) _ #[.int .i64 yb, .int .i64 yk, .int .i64 yv, .int .i64 ym, .int .i64 yz, .int .i64 yo] _ _ hr7
          have bf := below_setRow (below_setRow b6 (show w.heap.size ≤ w.heap.size + 2 by omega) #[.slice (some ⟨g6, 0, none⟩) n c6]) (show w.heap.size ≤ w.heap.size + 3 by omega) #[.int .i64 yb, .int .i64 yk, .int .i64 yv, .int .i64 ym, .int .i64 yz, .int .i64 yo]
          have M9 := ((l6.on (Same.row (r := w.heap.size + 2) (fun h9 => (keep_new h9 hs5).1 rfl) #[.slice (some ⟨g6, 0, none⟩) n c6])).on (Same.row (r := w.heap.size + 3) (fun h9 => (keep_new h9 hs5).2.1 rfl) #[.int .i64 yb, .int .i64 yk, .int .i64 yv, .int .i64 ym, .int .i64 yz, .int .i64 yo])).mono (G := Plus F w.heap.size) (fun b _ h9 => (keep_new h9 hs5).2.2)
          generalize (w6.setRow (w.heap.size + 2) #[.slice (some ⟨g6, 0, none⟩) n c6]).setRow (w.heap.size + 3) #[.int .i64 yb, .int .i64 yk, .int .i64 yv, .int .i64 ym, .int .i64 yz, .int .i64 yo] = w9 at *
          clear hx5 hp5 hq5 hr5 ho5 hx6 ho6 hq6 hr6 hx7 ho7 hr7 hx8 ho8 l5 M5 l6
          go_wp2_with fail
          exact bodyPost_ret (results_cct (p := 4) (q := 5) (r := 6) rfl _ _ _ _ _ _ _ _ _ _ _ _ rfl rfl hqf Try.underlying24 rfl map_info hrf Try.underlying28 rfl entry_info) rfl ⟨_, _, _, rfl, M9, bf⟩
end Go.Proofs.Ytljobnfilnbefaa.Ents

/- The walk of the document's All of a map. -/
namespace Go.Proofs.Ytljobnfilnbefaa.Ents
open Go.RowKit Plan EntMath
theorem own_len {w : World} {B n : Nat} {v : Value} {L : List Ent} (h : w.ownsRow B 28 6 v n (ents L)) : L.length = n := by have := h.1; rw [ents_length] at this; omega
theorem own_take {w : World} {B g n cap t : Nat} {L : List Ent} (h : w.ownsRow B 28 6 (.slice (some ⟨g, 0, none⟩) n cap) n (ents L)) (ht : t ≤ n) : w.ownsRow B 28 6 (.slice (some ⟨g, 0, none⟩) t cap) t (ents (L.take t)) := by
  have hl := own_len h
  rcases h.2 with ⟨h, _⟩ | ⟨g', cap', cur, hv, hb, hg, h1, h2, h3, h4⟩
  · cases h
  · cases hv
    refine ⟨by rw [ents_length, List.length_take]; congr 1; omega, .inr ⟨g, cap, cur, rfl, hb, hg, by omega, h2, h3, ?_⟩⟩
    rw [ents_take, ← h4, List.take_take]
    congr 1
    have : t * 6 ≤ n * 6 := Nat.mul_le_mul_right _ ht
    omega
theorem own_far {w w' : World} {B n sz : Nat} {t : TypeId} {v : Value} {xs : List Value} {r : Option Nat} (h : w.ownsRow B t sz v n xs) (hg : w.grownBy w' r) (hne : ∀ b, v.ownBlock = some b → r = some b → False) : w'.ownsRow B t sz v n xs := by
  refine h.kept hg ?_
  cases hv : v.ownBlock with
  | none => exact .inl rfl
  | some b => exact .inr (fun e => hne b hv e.symm)
set_option maxHeartbeats 16000000 in
set_option maxRecDepth 20000 in
theorem refAllM_any (F : Nat → Prop) (Ls : List (List Ent)) (a : Option Addr) (n c : Nat) (w : World) (hl : MList w F a n c Ls) (hm : Ls.length ≤ 8 → Ls.flatten.length ≤ 800000) :
    Calls Try.prog 31 #[mapV a n c] w fun r w' => ∃ b m d, r = .returned (.slice b m d) ∧ EList w' (fun q => w.heap.size ≤ q) b m d (allM Ls) ∧ Below w.heap.size w w' := by
  have hlen := hl.length
  have hA := (Below.refl w.heap.size w).alloc (Nat.le_refl _) (mapRow a n c)
  have hx0 := heap_alloc_new w (mapRow a n c)
  have HV := Lib.hid (fun W (h : Below w.heap.size w W) => refValidM_any _ Ls a n c W (hl.same h))
  cases hva : validM Ls
  · rw [hva] at HV
    have hN : allM Ls = [] := by unfold allM; rw [hva]; rfl
    rw [hN]
    clear hva hl hN
    go_enter Try.func31, Try.ntmps31
    have hc0 := map_row hx0
    generalize hw0 : w.alloc (mapRow a n c) = w0 at *
    go_wp2_with (first
      | (go_at_call 28; ((with_reducible refine (HV.out _ hA).mono ?_); rintro e9 w1 ⟨rfl, hb1⟩; have b1 := hA.trans (hb1.mono hA.size))))
    go_ret
    exact ⟨_, _, _, rfl, EList.nil _ _, b1⟩
  · rw [hva] at HV
    obtain ⟨hv1, hv8⟩ := (validM_iff.1 hva).1
    replace hm := hm hv8
    obtain ⟨x, rfl⟩ : ∃ x, a = some x := by
      rcases hl with ⟨_, rfl, _, _⟩ | ⟨x, rfl, _⟩
      · omega
      · exact ⟨x, rfl⟩
    have HSH := Lib.hid (fun i (hi : i < n) => hl.at' i hi)
    have hn8 : n ≤ 8 := by omega
    clear hl
    go_enter Try.func31, Try.ntmps31
    have hc0 := map_row hx0
    generalize hw0 : w.alloc (mapRow (some x) n c) = w0 at *
    go_wp2_with (first
      | (go_at_call 28; ((with_reducible refine (HV.out _ hA).mono ?_); rintro e9 w1 ⟨rfl, hb1⟩; have hx1 := e_on hb1 hx0 (e_lt hx0); have b1 := hA.trans (hb1.mono hA.size))))
    clear hc0
    go_loopw [3, 4] (fun v z wz => ∃ i : Nat, z = .int .i64 (i : Int) ∧ i ≤ n ∧ wz.heap[w.heap.size]? = some (mapRow (some x) n c) ∧ wz.ownsRow (w.heap.size + 1) 28 6 v (outM Ls i [] 0).length (ents (outM Ls i [] 0)) ∧ Below w.heap.size w wz) (fun _ z _ => n - (intOf z).toNat)
    case atStart => exact ⟨0, rfl, by omega, hx1, by rw [outM_nil]; exact World.ownsRow_nil _ _ _ _, b1⟩
    case round =>
      clear hx0 hA hx1 b1 hb1
      obtain ⟨i, rfl, hi, hx, hown, hb⟩ := hrel
      have hcx := map_row hx
      by_cases hlt : i < n
      · obtain ⟨x', L, b, m, kk, hxx, hL, hcc, hle⟩ := HSH.out i hlt
        obtain rfl := Option.some.inj hxx
        have HP := Lib.hid (pin hcc hle)
        have hiI : (i : Int) < (n : Int) := by omega
        have hcI := (HP.out wr hb).1
        have hml := hle.length
        have hmc := hle.cap
        unfold maxLen at hmc
        rw [outM_zero Ls i [] L] at hown
        clear hcc hle hxx
        go_wp2_with fail
        go_loopw [3, 5] (fun v z wz => ∃ j : Nat, z = .int .i64 (j : Int) ∧ j ≤ m ∧ wz.heap[w.heap.size]? = some (mapRow (some x) n c) ∧ wz.ownsRow (w.heap.size + 1) 28 6 v (outM Ls i L j).length (ents (outM Ls i L j)) ∧ Below w.heap.size w wz) (fun _ z _ => m - (intOf z).toNat)
        case atStart => exact ⟨0, rfl, by omega, hx, hown, hb⟩
        case round =>
          clear hcx hx hown hb hcI
          obtain ⟨j, rfl, hj, hx, hown, hb⟩ := hrel
          have hcx := map_row hx
          have hcI := (HP.out wr hb).1
          by_cases hltj : j < m
          · obtain ⟨y, e, rfl, he, -⟩ := (HP.out wr hb).2.ent j hltj
            have HATE := Lib.hid (fun W (h : Below w.heap.size w W) => (show EntAt W y j e from by
              obtain ⟨y', e', hy', he', h'⟩ := (HP.out W h).2.ent j hltj
              obtain rfl := Option.some.inj hy'
              rw [he] at he'
              obtain rfl := Option.some.inj he'
              exact h'))
            have hjI : (j : Int) < (m : Int) := by omega
            have hasc := outM_asc Ls i L j
            have hne := outM_ne hva hL he
            have hnext := outM_next (Ls := Ls) (i := i) he
            have hlenb := outM_len hL j
            have hinsb := fun t (h1 : t ≤ (outM Ls i L j).length) h2 h3 => (ins_behind (e := e) (t := t) hasc hne h1 h2 h3).trans hnext.symm
            have hins0 := fun (h : outM Ls i L j = []) => (show ([] ++ [e]) ++ [] = outM Ls i L (j + 1) by rw [hnext, h]; rfl)
            obtain ⟨eb, ek, ev, em, ez, eo⟩ := e
            try simp only at HATE hinsb hins0
            clear hasc hne hnext he
            rcases hown.2 with ⟨rfl, h0⟩ | ⟨g, cap, cur, rfl, -, -, hn1, hn2, -, -⟩
            · clear hinsb
              have hOUT : outM Ls i L j = [] := List.length_eq_zero_iff.1 h0
              rw [hOUT] at hown
              have HINS := Lib.hid (fun (_ : True) => hins0 hOUT)
              go_wp2_with fail
              go_loopw [6] (fun z wz => z = .int .i64 0 ∧ wz.heap[w.heap.size]? = some (mapRow (some x) n c) ∧ Below w.heap.size w wz) (fun z _ => (intOf z).toNat)
              case atStart => exact ⟨rfl, hx, hb⟩
              case round =>
                obtain ⟨rfl, hx3, hb3⟩ := hrel
                have hc3 := map_row hx3
                have hown3 : wr.ownsRow (w.heap.size + 1) 28 6 (.slice none 0 0) 0 (ents []) := World.ownsRow_nil _ _ _ _
                have cE := (HATE.out wr hb3).1
                have cX := (HP.out wr hb3).1
                go_wp2_with fail
                refine Plan.start (fun W => W.cell? ⟨w.heap.size, 0, none⟩ = some (.slice (some x) n c) ∧ W.cell? (x.add i) = some (.slice (some y) m kk) ∧ W.cell? (y.add (j * 6)) = some (.int .i64 eb)) [(0, true), (1, true), (2, true), (3, true), (4, true), (5, true), (6, true), (7, true), (8, true), (9, true), (10, true), (11, true), (12, true), (13, true), (14, true), (15, true), (16, true), (17, true), (18, true), (19, true)] (by kernel_rfl) (by kernel_rfl) (by kernel_rfl) (by kernel_rfl) ⟨hc3, cX, cE⟩ ?_
                simp only [List.map_cons, List.map_nil, List.getElem?_toArray, List.getElem?_cons_zero, List.getElem?_cons_succ]
                repeat (first | (refine Plan.take ?_ (by rfl) ?_ ?_; rotate_left; (· rintro w9 ⟨u0, u1, u2⟩; go_simp; (try rw [if_neg (by omega)]); all_goals (with_reducible rfl)); simp only [Act.put, List.setIfInBounds_toArray, List.set_cons_zero, List.set_cons_succ]) | (refine Plan.pass (by rfl) ?_; simp only [Act.put, List.setIfInBounds_toArray, List.set_cons_zero, List.set_cons_succ]))
                refine Plan.ends ?_
                have hx3 : wr.drew.heap[w.heap.size]? = _ := hx3
                have hb3 := hb3.drew
                clear hc3 cE cX hown3
                generalize wr.drew = wr at *
                have hown3 : wr.ownsRow (w.heap.size + 1) 28 6 (.slice none 0 0) 0 (ents []) := World.ownsRow_nil _ _ _ _
                have hc3 := map_row hx3
                have cX := (HP.out wr hb3).1
                have bE := hb3.alloc hb3.size (.cells #[] 28)
                have hsz3 := e_lt hx3
                have hsrc : EList (wr.alloc (.cells #[] 28)) (fun _ => True) none 0 0 ([] : List Ent) := EList.nil _ _
                have HSRC := Lib.hid hsrc
                clear hsrc
                go_wp2_with (first
                  | (at_builtin; refine append_ents (F := fun _ => True) rfl (.tmp 52) (.tmp 55) rfl wr.heap.size (.slice (some ⟨wr.heap.size, 0, none⟩) 0 0) 0 [] rfl (ents_empty wr rfl) none 0 0 ([] : List Ent) rfl HSRC.out (by omega) (by simp) ?_; intro v7 w7 hown7 hgrow7; rw [Nat.zero_add, List.nil_append] at hown7; have b7 := bE.grown hgrow7 bE.size (fun z9 h9 => by have h8 := Option.some.inj (show some wr.heap.size = some z9 from h9); omega); have hx7 := (hgrow7.block w.heap.size (by simp only [World.size_alloc]; omega) (fun h9 => by have h8 := Option.some.inj (show some _ = some wr.heap.size from h9); omega)).trans (e_al hx3 (.cells #[] 28)); have ho7 := own_far (hown3.kept (World.grownBy_alloc wr (.cells #[] 28) none) (by cases (Value.slice none 0 0).ownBlock <;> simp)) hgrow7 (fun b h8 h9 => by have h6 := (hown3.lt b h8).2; have h5 := Option.some.inj (show some wr.heap.size = some b from h9); omega)))
                obtain ⟨hp1, hp2⟩ := HP.out w7 b7
                have hat7 := HATE.out w7 b7
                obtain ⟨-, a7, c7, rfl, hl7⟩ := owns_ents (F := fun b => wr.heap.size ≤ b) hown7 (fun b hb9 => (hown7.lt b hb9).1)
                refine Plan.start (fun W => W.cell? ⟨w.heap.size, 0, none⟩ = some (.slice (some x) n c) ∧ W.cell? (x.add i) = some (.slice (some y) m kk) ∧ EntAt W y j ⟨eb, ek, ev, em, ez, eo⟩) [(0, true), (1, true), (2, true), (3, true), (4, true), (5, true), (6, true), (7, true), (8, true), (9, true), (10, true), (13, true), (11, false), (12, false), (14, false), (15, true)] (by kernel_rfl) (by kernel_rfl) (by kernel_rfl) (by kernel_rfl) ⟨map_row hx7, hp1, hat7⟩ ?_
                simp only [List.map_cons, List.map_nil, List.getElem?_toArray, List.getElem?_cons_zero, List.getElem?_cons_succ]
                repeat (first | (refine Plan.take ?_ (by rfl) ?_ ?_; rotate_left; (· rintro w9 ⟨u0, u1, u2, u3, u4, u5, u6, u7⟩; go_simp; (try rw [if_neg (by omega)]); all_goals (with_reducible rfl)); simp only [Act.put, List.setIfInBounds_toArray, List.set_cons_zero, List.set_cons_succ]) | (refine Plan.pass (by rfl) ?_; simp only [Act.put, List.setIfInBounds_toArray, List.set_cons_zero, List.set_cons_succ]))
                have b8 : Below w.heap.size w (w7.drew.alloc (entRow eb ek ev em ez eo)) := b7.drew.alloc b7.drew.size _
                have hx8 : (w7.drew.alloc (entRow eb ek ev em ez eo)).heap[w.heap.size]? = _ := e_al (show w7.drew.heap[w.heap.size]? = _ from hx7) (entRow eb ek ev em ez eo)
                have he8 : (w7.drew.alloc (entRow eb ek ev em ez eo)).heap[w7.heap.size]? = some (entRow eb ek ev em ez eo) := heap_alloc_new w7.drew (entRow eb ek ev em ez eo)
                have ho8 := own_far (w' := w7.drew.alloc (entRow eb ek ev em ez eo)) ho7 (r := none) ⟨rfl, rfl, rfl, by simp only [World.size_alloc]; exact Nat.le_succ _, fun q hq _ => Below.heap_alloc _ _ _ hq⟩ (fun b _ h9 => by cases h9)
                have hl8 : EList (w7.drew.alloc (entRow eb ek ev em ez eo)) (fun b => wr.heap.size ≤ b ∧ b < w7.heap.size) a7 _ c7 ([] : List Ent) := hl7.cut.on (Same.alloc w7.drew (entRow eb ek ev em ez eo))
                refine Plan.make (by rfl) (.slice (some ⟨w7.heap.size, 0, none⟩) 1 1) (w7.drew.alloc (entRow eb ek ev em ez eo)) ?_ ⟨map_row hx8, (HP.out _ b8).1, HATE.out _ b8⟩ ?_
                · go_simp
                simp only [Act.put, List.setIfInBounds_toArray, List.set_cons_zero, List.set_cons_succ]
                have ht8 : (w7.drew.alloc (entRow eb ek ev em ez eo)).ownsRow (w.heap.size + 1) 28 6 (.slice none 0 0) 0 (ents []) := World.ownsRow_nil _ _ _ _
                have hB8 : w.heap.size + 1 ≤ (w7.drew.alloc (entRow eb ek ev em ez eo)).heap.size := by have := e_lt hx8; omega
                refine Plan.carry (by rfl) (wp_append_ents (F := fun _ => True) (.tmp 59) (.tmp 68) rfl (w.heap.size + 1) (.slice none 0 0) 0 [] rfl (w := w7.drew.alloc (entRow eb ek ev em ez eo)) ht8 (some ⟨w7.heap.size, 0, none⟩) 1 1 [⟨eb, ek, ev, em, ez, eo⟩] rfl (elist_one he8) (by omega) hB8 ?_)
                intro v9 w9 hown9 hgrow9
                have hgB : True := trivial
                have b9 := b8.grown hgrow9 b8.size (fun z9 h9 => by cases h9)
                have hx9 := (hgrow9.block w.heap.size (e_lt hx8) (fun h9 => by cases h9)).trans hx8
                have hl9 : EList w9 (fun b => wr.heap.size ≤ b ∧ b < w7.heap.size) a7 _ c7 ([] : List Ent) := hl8.on ⟨hgrow9.size, fun b h1 h2 => hgrow9.block b h2 (fun h9 => by cases h9)⟩
                refine ⟨⟨map_row hx9, (HP.out _ b9).1, HATE.out _ b9⟩, ?_⟩
                simp only [Act.put, List.setIfInBounds_toArray, List.set_cons_zero, List.set_cons_succ]
                repeat (first | (refine Plan.take ?_ (by rfl) ?_ ?_; rotate_left; (· rintro w9 ⟨u0, u1, u2, u3, u4, u5, u6, u7⟩; go_simp; (try rw [if_neg (by omega)]); all_goals (with_reducible rfl)); simp only [Act.put, List.setIfInBounds_toArray, List.set_cons_zero, List.set_cons_succ]) | (refine Plan.pass (by rfl) ?_; simp only [Act.put, List.setIfInBounds_toArray, List.set_cons_zero, List.set_cons_succ]))
                have hB9 : w.heap.size + 1 ≤ w9.heap.size := Nat.le_trans hB8 hgrow9.size
                refine Plan.carry (by rfl) (wp_append_ents (F := fun b => wr.heap.size ≤ b ∧ b < w7.heap.size) (.tmp 69) (.tmp 70) rfl (w.heap.size + 1) v9 _ _ rfl (w := w9) hown9 a7 _ c7 ([] : List Ent) rfl hl9 (by omega) hB9 ?_)
                intro v10 w10 hown10 hgrow10
                have b10 := b9.grown hgrow10 b9.size (fun z9 h9 => by have := (hown9.lt z9 h9).1; omega)
                have hx10 := (hgrow10.block w.heap.size (e_lt hx9) (fun h9 => by have := (hown9.lt _ h9.symm).1; omega)).trans hx9
                refine ⟨⟨map_row hx10, (HP.out _ b10).1, HATE.out _ b10⟩, ?_⟩
                simp only [Act.put, List.setIfInBounds_toArray, List.set_cons_zero, List.set_cons_succ]
                repeat (first | (refine Plan.take ?_ (by rfl) ?_ ?_; rotate_left; (· rintro w9 ⟨u0, u1, u2, u3, u4, u5, u6, u7⟩; go_simp; (try rw [if_neg (by omega)]); all_goals (with_reducible rfl)); simp only [Act.put, List.setIfInBounds_toArray, List.set_cons_zero, List.set_cons_succ]) | (refine Plan.pass (by rfl) ?_; simp only [Act.put, List.setIfInBounds_toArray, List.set_cons_zero, List.set_cons_succ]))
                refine Plan.ends ?_
                rw [HINS.out trivial] at hown10
                have hlen10 := own_len hown10
                rw [← hlen10] at hown10
                clear hown9 hgrow9 hgrow10 hown7 hgrow7 ho7 ho8 ht8 hl8 hl9 hl7 hp1 hp2 hat7 he8 hx7 hx8 hx9
                go_wp2_with fail
                go_roundw
                case rel => exact ⟨j + 1, by go_num, by omega, hx10, hown10, b10⟩
                case measure => simp [intOf]; omega
            · clear hins0
              generalize hN : (outM Ls i L j).length = N at *
              have hcapI : N ≤ cap ∧ cap ≤ 9223372036854775807 := ⟨hn1, by unfold maxLen at hn2; omega⟩
              have HINS := Lib.hid hinsb
              clear hn1 hn2
              go_wp2_with fail
              go_loopw [6] (fun z wz => ∃ t : Nat, z = .int .i64 (t : Int) ∧ t ≤ N ∧ RowKit.Hid (∀ (q : Nat) (d : Ent), t ≤ q → (outM Ls i L j)[q]? = some d → eb < d.block) ∧ wz.ownsRow (w.heap.size + 1) 28 6 (.slice (some ⟨g, 0, none⟩) N cap) N (ents (outM Ls i L j)) ∧ wz.heap[w.heap.size]? = some (mapRow (some x) n c) ∧ Below w.heap.size w wz) (fun z _ => (intOf z).toNat)
              case atStart => exact ⟨N, rfl, by omega, Lib.hid (fun q d hq h => by have := (List.getElem?_eq_some_iff.1 h).1; omega), hown, hx, hb⟩
              case round =>
                clear hown hx hb
                obtain ⟨t, rfl, ht, HGT, hown3, hx3, hb3⟩ := hrel
                have hc3 := map_row hx3
                have cE := (HATE.out wr hb3).1
                have cX := (HP.out wr hb3).1
                by_cases h0 : t = 0
                · have d1 : decide (0 < (t : Int)) = false := by simp; omega
                  have d2 : decide (0 < t) = false := by simp; omega
                  have hstop : t = 0 ∨ ∃ p d, t = p + 1 ∧ (outM Ls i L j)[p]? = some d ∧ d.block ≤ eb := .inl h0
                  have htI : (t : Int) ≤ (cap : Int) := by omega
                  have htN : (t : Int) ≤ (N : Int) := by omega
                  have hNc : (N : Int) ≤ (cap : Int) := by omega
                  clear h0
                  go_wp2_with fail
                  refine Plan.start (fun W => W.cell? ⟨w.heap.size, 0, none⟩ = some (.slice (some x) n c) ∧ W.cell? (x.add i) = some (.slice (some y) m kk) ∧ W.cell? (y.add (j * 6)) = some (.int .i64 eb)) [(0, true), (1, true), (2, true), (3, true), (4, true), (5, true), (6, true), (7, true), (8, true), (9, true), (10, true), (11, true), (12, true), (13, true), (14, true), (15, true), (16, true), (17, true), (18, true), (19, true)] (by kernel_rfl) (by kernel_rfl) (by kernel_rfl) (by kernel_rfl) ⟨hc3, cX, cE⟩ ?_
                  simp only [List.map_cons, List.map_nil, List.getElem?_toArray, List.getElem?_cons_zero, List.getElem?_cons_succ]
                  repeat (first | (refine Plan.take ?_ (by rfl) ?_ ?_; rotate_left; (· rintro w9 ⟨u0, u1, u2⟩; go_simp; (try rw [if_neg (by omega)]); all_goals (with_reducible rfl)); simp only [Act.put, List.setIfInBounds_toArray, List.set_cons_zero, List.set_cons_succ]) | (refine Plan.pass (by rfl) ?_; simp only [Act.put, List.setIfInBounds_toArray, List.set_cons_zero, List.set_cons_succ]))
                  refine Plan.ends ?_
                  have hx3 : wr.drew.heap[w.heap.size]? = _ := hx3
                  have hb3 := hb3.drew
                  have hown3 := e_owns_drew hown3
                  clear hc3 cE cX
                  generalize wr.drew = wr at *
                  have hc3 := map_row hx3
                  have cX := (HP.out wr hb3).1
                  by_cases hct : t = cap
                  · obtain rfl := hct
                    obtain rfl : t = N := by omega
                    have bE := hb3.alloc hb3.size (.cells #[] 28)
                    have hsz3 := e_lt hx3
                    have hsrc : EList (wr.alloc (.cells #[] 28)) (fun _ => True) (some ⟨g, 0, none⟩) 0 0 ((outM Ls i L j).drop t) := by
                      obtain ⟨-, a9, c9, h9, hl9⟩ := owns_ents (F := fun _ => True) hown3 (fun _ _ => trivial)
                      cases h9
                      have hd := (hl9.on (Same.alloc wr (.cells #[] 28))).dropped t (by omega)
                      rw [if_pos rfl, Nat.sub_self] at hd; exact hd
                    have HSRC := Lib.hid hsrc
                    clear hsrc
                    go_wp2_with (first
                      | (at_builtin; refine append_ents (F := fun _ => True) rfl (.tmp 52) (.tmp 55) rfl wr.heap.size (.slice (some ⟨wr.heap.size, 0, none⟩) 0 0) 0 [] rfl (ents_empty wr rfl) (some ⟨g, 0, none⟩) 0 0 ((outM Ls i L j).drop t) rfl HSRC.out (by omega) (by simp) ?_; intro v7 w7 hown7 hgrow7; rw [Nat.zero_add, List.nil_append] at hown7; have b7 := bE.grown hgrow7 bE.size (fun z9 h9 => by have h8 := Option.some.inj (show some wr.heap.size = some z9 from h9); omega); have hx7 := (hgrow7.block w.heap.size (by simp only [World.size_alloc]; omega) (fun h9 => by have h8 := Option.some.inj (show some _ = some wr.heap.size from h9); omega)).trans (e_al hx3 (.cells #[] 28)); have ho7 := own_far (hown3.kept (World.grownBy_alloc wr (.cells #[] 28) none) (by cases (Value.slice (some ⟨g, 0, none⟩) t t).ownBlock <;> simp)) hgrow7 (fun b h8 h9 => by have h6 := (hown3.lt b h8).2; have h5 := Option.some.inj (show some wr.heap.size = some b from h9); omega)))
                    obtain ⟨hp1, hp2⟩ := HP.out w7 b7
                    have hat7 := HATE.out w7 b7
                    obtain ⟨-, a7, c7, rfl, hl7⟩ := owns_ents (F := fun b => wr.heap.size ≤ b) hown7 (fun b hb9 => (hown7.lt b hb9).1)
                    refine Plan.start (fun W => W.cell? ⟨w.heap.size, 0, none⟩ = some (.slice (some x) n c) ∧ W.cell? (x.add i) = some (.slice (some y) m kk) ∧ EntAt W y j ⟨eb, ek, ev, em, ez, eo⟩) [(0, true), (1, true), (2, true), (3, true), (4, true), (5, true), (6, true), (7, true), (8, true), (9, true), (10, true), (13, true), (11, false), (12, false), (14, false), (15, true)] (by kernel_rfl) (by kernel_rfl) (by kernel_rfl) (by kernel_rfl) ⟨map_row hx7, hp1, hat7⟩ ?_
                    simp only [List.map_cons, List.map_nil, List.getElem?_toArray, List.getElem?_cons_zero, List.getElem?_cons_succ]
                    repeat (first | (refine Plan.take ?_ (by rfl) ?_ ?_; rotate_left; (· rintro w9 ⟨u0, u1, u2, u3, u4, u5, u6, u7⟩; go_simp; (try rw [if_neg (by omega)]); all_goals (with_reducible rfl)); simp only [Act.put, List.setIfInBounds_toArray, List.set_cons_zero, List.set_cons_succ]) | (refine Plan.pass (by rfl) ?_; simp only [Act.put, List.setIfInBounds_toArray, List.set_cons_zero, List.set_cons_succ]))
                    have b8 : Below w.heap.size w (w7.drew.alloc (entRow eb ek ev em ez eo)) := b7.drew.alloc b7.drew.size _
                    have hx8 : (w7.drew.alloc (entRow eb ek ev em ez eo)).heap[w.heap.size]? = _ := e_al (show w7.drew.heap[w.heap.size]? = _ from hx7) (entRow eb ek ev em ez eo)
                    have he8 : (w7.drew.alloc (entRow eb ek ev em ez eo)).heap[w7.heap.size]? = some (entRow eb ek ev em ez eo) := heap_alloc_new w7.drew (entRow eb ek ev em ez eo)
                    have ho8 := own_far (w' := w7.drew.alloc (entRow eb ek ev em ez eo)) ho7 (r := none) ⟨rfl, rfl, rfl, by simp only [World.size_alloc]; exact Nat.le_succ _, fun q hq _ => Below.heap_alloc _ _ _ hq⟩ (fun b _ h9 => by cases h9)
                    have hl8 : EList (w7.drew.alloc (entRow eb ek ev em ez eo)) (fun b => wr.heap.size ≤ b ∧ b < w7.heap.size) a7 _ c7 ((outM Ls i L j).drop t) := hl7.cut.on (Same.alloc w7.drew (entRow eb ek ev em ez eo))
                    refine Plan.make (by rfl) (.slice (some ⟨w7.heap.size, 0, none⟩) 1 1) (w7.drew.alloc (entRow eb ek ev em ez eo)) ?_ ⟨map_row hx8, (HP.out _ b8).1, HATE.out _ b8⟩ ?_
                    · go_simp
                    simp only [Act.put, List.setIfInBounds_toArray, List.set_cons_zero, List.set_cons_succ]
                    have ht8 := own_take ho8 (show t ≤ t by omega)
                    have hB8 : w.heap.size + 1 ≤ (w7.drew.alloc (entRow eb ek ev em ez eo)).heap.size := by have := e_lt hx8; omega
                    refine Plan.carry (by rfl) (wp_append_ents (F := fun _ => True) (.tmp 59) (.tmp 68) rfl (w.heap.size + 1) (.slice (some ⟨g, 0, none⟩) t t) t ((outM Ls i L j).take t) rfl (w := w7.drew.alloc (entRow eb ek ev em ez eo)) ht8 (some ⟨w7.heap.size, 0, none⟩) 1 1 [⟨eb, ek, ev, em, ez, eo⟩] rfl (elist_one he8) (by omega) hB8 ?_)
                    intro v9 w9 hown9 hgrow9
                    have hgB : w.heap.size + 1 ≤ g ∧ g < wr.heap.size := hown3.lt g rfl
                    have b9 := b8.grown hgrow9 b8.size (fun z9 h9 => by have h8 := Option.some.inj (show some g = some z9 from h9); omega)
                    have hx9 := (hgrow9.block w.heap.size (e_lt hx8) (fun h9 => by have h8 := Option.some.inj (show some _ = some g from h9); omega)).trans hx8
                    have hl9 : EList w9 (fun b => wr.heap.size ≤ b ∧ b < w7.heap.size) a7 _ c7 ((outM Ls i L j).drop t) := hl8.on ⟨hgrow9.size, fun b h1 h2 => hgrow9.block b h2 (fun h9 => by have h8 := Option.some.inj (show some b = some g from h9); have := h1.1; omega)⟩
                    refine ⟨⟨map_row hx9, (HP.out _ b9).1, HATE.out _ b9⟩, ?_⟩
                    simp only [Act.put, List.setIfInBounds_toArray, List.set_cons_zero, List.set_cons_succ]
                    repeat (first | (refine Plan.take ?_ (by rfl) ?_ ?_; rotate_left; (· rintro w9 ⟨u0, u1, u2, u3, u4, u5, u6, u7⟩; go_simp; (try rw [if_neg (by omega)]); all_goals (with_reducible rfl)); simp only [Act.put, List.setIfInBounds_toArray, List.set_cons_zero, List.set_cons_succ]) | (refine Plan.pass (by rfl) ?_; simp only [Act.put, List.setIfInBounds_toArray, List.set_cons_zero, List.set_cons_succ]))
                    have hB9 : w.heap.size + 1 ≤ w9.heap.size := Nat.le_trans hB8 hgrow9.size
                    refine Plan.carry (by rfl) (wp_append_ents (F := fun b => wr.heap.size ≤ b ∧ b < w7.heap.size) (.tmp 69) (.tmp 70) rfl (w.heap.size + 1) v9 _ _ rfl (w := w9) hown9 a7 _ c7 ((outM Ls i L j).drop t) rfl hl9 (by omega) hB9 ?_)
                    intro v10 w10 hown10 hgrow10
                    have b10 := b9.grown hgrow10 b9.size (fun z9 h9 => by have := (hown9.lt z9 h9).1; omega)
                    have hx10 := (hgrow10.block w.heap.size (e_lt hx9) (fun h9 => by have := (hown9.lt _ h9.symm).1; omega)).trans hx9
                    refine ⟨⟨map_row hx10, (HP.out _ b10).1, HATE.out _ b10⟩, ?_⟩
                    simp only [Act.put, List.setIfInBounds_toArray, List.set_cons_zero, List.set_cons_succ]
                    repeat (first | (refine Plan.take ?_ (by rfl) ?_ ?_; rotate_left; (· rintro w9 ⟨u0, u1, u2, u3, u4, u5, u6, u7⟩; go_simp; (try rw [if_neg (by omega)]); all_goals (with_reducible rfl)); simp only [Act.put, List.setIfInBounds_toArray, List.set_cons_zero, List.set_cons_succ]) | (refine Plan.pass (by rfl) ?_; simp only [Act.put, List.setIfInBounds_toArray, List.set_cons_zero, List.set_cons_succ]))
                    refine Plan.ends ?_
                    rw [HINS.out t (by omega) HGT.out hstop] at hown10
                    have hlen10 := own_len hown10
                    rw [← hlen10] at hown10
                    clear hown9 hgrow9 hgrow10 hown7 hgrow7 ho7 ho8 ht8 hl8 hl9 hl7 hp1 hp2 hat7 he8 hx7 hx8 hx9
                    go_wp2_with fail
                    go_roundw
                    case rel => exact ⟨j + 1, by go_num, by omega, hx10, hown10, b10⟩
                    case measure => simp [intOf]; omega
                  · have hct : ¬ cap = t := fun h => hct h.symm
                    have bE := hb3.alloc hb3.size (.cells #[] 28)
                    have hsz3 := e_lt hx3
                    have hsrc : EList (wr.alloc (.cells #[] 28)) (fun _ => True) (some ⟨g, t * 6, none⟩) (N - t) (cap - t) ((outM Ls i L j).drop t) := by
                      obtain ⟨-, a9, c9, h9, hl9⟩ := owns_ents (F := fun _ => True) hown3 (fun _ _ => trivial)
                      cases h9
                      have hd := (hl9.on (Same.alloc wr (.cells #[] 28))).dropped t (by omega)
                      rw [if_neg hct, Addr.add_lit, Nat.zero_add] at hd; exact hd
                    have HSRC := Lib.hid hsrc
                    clear hsrc
                    go_wp2_with (first
                      | (at_builtin; refine append_ents (F := fun _ => True) rfl (.tmp 52) (.tmp 55) rfl wr.heap.size (.slice (some ⟨wr.heap.size, 0, none⟩) 0 0) 0 [] rfl (ents_empty wr rfl) (some ⟨g, t * 6, none⟩) (N - t) (cap - t) ((outM Ls i L j).drop t) rfl HSRC.out (by omega) (by simp) ?_; intro v7 w7 hown7 hgrow7; rw [Nat.zero_add, List.nil_append] at hown7; have b7 := bE.grown hgrow7 bE.size (fun z9 h9 => by have h8 := Option.some.inj (show some wr.heap.size = some z9 from h9); omega); have hx7 := (hgrow7.block w.heap.size (by simp only [World.size_alloc]; omega) (fun h9 => by have h8 := Option.some.inj (show some _ = some wr.heap.size from h9); omega)).trans (e_al hx3 (.cells #[] 28)); have ho7 := own_far (hown3.kept (World.grownBy_alloc wr (.cells #[] 28) none) (by cases (Value.slice (some ⟨g, 0, none⟩) N cap).ownBlock <;> simp)) hgrow7 (fun b h8 h9 => by have h6 := (hown3.lt b h8).2; have h5 := Option.some.inj (show some wr.heap.size = some b from h9); omega)))
                    obtain ⟨hp1, hp2⟩ := HP.out w7 b7
                    have hat7 := HATE.out w7 b7
                    obtain ⟨-, a7, c7, rfl, hl7⟩ := owns_ents (F := fun b => wr.heap.size ≤ b) hown7 (fun b hb9 => (hown7.lt b hb9).1)
                    refine Plan.start (fun W => W.cell? ⟨w.heap.size, 0, none⟩ = some (.slice (some x) n c) ∧ W.cell? (x.add i) = some (.slice (some y) m kk) ∧ EntAt W y j ⟨eb, ek, ev, em, ez, eo⟩) [(0, true), (1, true), (2, true), (3, true), (4, true), (5, true), (6, true), (7, true), (8, true), (9, true), (10, true), (13, true), (11, false), (12, false), (14, false), (15, true)] (by kernel_rfl) (by kernel_rfl) (by kernel_rfl) (by kernel_rfl) ⟨map_row hx7, hp1, hat7⟩ ?_
                    simp only [List.map_cons, List.map_nil, List.getElem?_toArray, List.getElem?_cons_zero, List.getElem?_cons_succ]
                    repeat (first | (refine Plan.take ?_ (by rfl) ?_ ?_; rotate_left; (· rintro w9 ⟨u0, u1, u2, u3, u4, u5, u6, u7⟩; go_simp; (try rw [if_neg (by omega)]); all_goals (with_reducible rfl)); simp only [Act.put, List.setIfInBounds_toArray, List.set_cons_zero, List.set_cons_succ]) | (refine Plan.pass (by rfl) ?_; simp only [Act.put, List.setIfInBounds_toArray, List.set_cons_zero, List.set_cons_succ]))
                    have b8 : Below w.heap.size w (w7.drew.alloc (entRow eb ek ev em ez eo)) := b7.drew.alloc b7.drew.size _
                    have hx8 : (w7.drew.alloc (entRow eb ek ev em ez eo)).heap[w.heap.size]? = _ := e_al (show w7.drew.heap[w.heap.size]? = _ from hx7) (entRow eb ek ev em ez eo)
                    have he8 : (w7.drew.alloc (entRow eb ek ev em ez eo)).heap[w7.heap.size]? = some (entRow eb ek ev em ez eo) := heap_alloc_new w7.drew (entRow eb ek ev em ez eo)
                    have ho8 := own_far (w' := w7.drew.alloc (entRow eb ek ev em ez eo)) ho7 (r := none) ⟨rfl, rfl, rfl, by simp only [World.size_alloc]; exact Nat.le_succ _, fun q hq _ => Below.heap_alloc _ _ _ hq⟩ (fun b _ h9 => by cases h9)
                    have hl8 : EList (w7.drew.alloc (entRow eb ek ev em ez eo)) (fun b => wr.heap.size ≤ b ∧ b < w7.heap.size) a7 _ c7 ((outM Ls i L j).drop t) := hl7.cut.on (Same.alloc w7.drew (entRow eb ek ev em ez eo))
                    refine Plan.make (by rfl) (.slice (some ⟨w7.heap.size, 0, none⟩) 1 1) (w7.drew.alloc (entRow eb ek ev em ez eo)) ?_ ⟨map_row hx8, (HP.out _ b8).1, HATE.out _ b8⟩ ?_
                    · go_simp
                    simp only [Act.put, List.setIfInBounds_toArray, List.set_cons_zero, List.set_cons_succ]
                    have ht8 := own_take ho8 (show t ≤ N by omega)
                    have hB8 : w.heap.size + 1 ≤ (w7.drew.alloc (entRow eb ek ev em ez eo)).heap.size := by have := e_lt hx8; omega
                    refine Plan.carry (by rfl) (wp_append_ents (F := fun _ => True) (.tmp 59) (.tmp 68) rfl (w.heap.size + 1) (.slice (some ⟨g, 0, none⟩) t cap) t ((outM Ls i L j).take t) rfl (w := w7.drew.alloc (entRow eb ek ev em ez eo)) ht8 (some ⟨w7.heap.size, 0, none⟩) 1 1 [⟨eb, ek, ev, em, ez, eo⟩] rfl (elist_one he8) (by omega) hB8 ?_)
                    intro v9 w9 hown9 hgrow9
                    have hgB : w.heap.size + 1 ≤ g ∧ g < wr.heap.size := hown3.lt g rfl
                    have b9 := b8.grown hgrow9 b8.size (fun z9 h9 => by have h8 := Option.some.inj (show some g = some z9 from h9); omega)
                    have hx9 := (hgrow9.block w.heap.size (e_lt hx8) (fun h9 => by have h8 := Option.some.inj (show some _ = some g from h9); omega)).trans hx8
                    have hl9 : EList w9 (fun b => wr.heap.size ≤ b ∧ b < w7.heap.size) a7 _ c7 ((outM Ls i L j).drop t) := hl8.on ⟨hgrow9.size, fun b h1 h2 => hgrow9.block b h2 (fun h9 => by have h8 := Option.some.inj (show some b = some g from h9); have := h1.1; omega)⟩
                    refine ⟨⟨map_row hx9, (HP.out _ b9).1, HATE.out _ b9⟩, ?_⟩
                    simp only [Act.put, List.setIfInBounds_toArray, List.set_cons_zero, List.set_cons_succ]
                    repeat (first | (refine Plan.take ?_ (by rfl) ?_ ?_; rotate_left; (· rintro w9 ⟨u0, u1, u2, u3, u4, u5, u6, u7⟩; go_simp; (try rw [if_neg (by omega)]); all_goals (with_reducible rfl)); simp only [Act.put, List.setIfInBounds_toArray, List.set_cons_zero, List.set_cons_succ]) | (refine Plan.pass (by rfl) ?_; simp only [Act.put, List.setIfInBounds_toArray, List.set_cons_zero, List.set_cons_succ]))
                    have hB9 : w.heap.size + 1 ≤ w9.heap.size := Nat.le_trans hB8 hgrow9.size
                    refine Plan.carry (by rfl) (wp_append_ents (F := fun b => wr.heap.size ≤ b ∧ b < w7.heap.size) (.tmp 69) (.tmp 70) rfl (w.heap.size + 1) v9 _ _ rfl (w := w9) hown9 a7 _ c7 ((outM Ls i L j).drop t) rfl hl9 (by omega) hB9 ?_)
                    intro v10 w10 hown10 hgrow10
                    have b10 := b9.grown hgrow10 b9.size (fun z9 h9 => by have := (hown9.lt z9 h9).1; omega)
                    have hx10 := (hgrow10.block w.heap.size (e_lt hx9) (fun h9 => by have := (hown9.lt _ h9.symm).1; omega)).trans hx9
                    refine ⟨⟨map_row hx10, (HP.out _ b10).1, HATE.out _ b10⟩, ?_⟩
                    simp only [Act.put, List.setIfInBounds_toArray, List.set_cons_zero, List.set_cons_succ]
                    repeat (first | (refine Plan.take ?_ (by rfl) ?_ ?_; rotate_left; (· rintro w9 ⟨u0, u1, u2, u3, u4, u5, u6, u7⟩; go_simp; (try rw [if_neg (by omega)]); all_goals (with_reducible rfl)); simp only [Act.put, List.setIfInBounds_toArray, List.set_cons_zero, List.set_cons_succ]) | (refine Plan.pass (by rfl) ?_; simp only [Act.put, List.setIfInBounds_toArray, List.set_cons_zero, List.set_cons_succ]))
                    refine Plan.ends ?_
                    rw [HINS.out t (by omega) HGT.out hstop] at hown10
                    have hlen10 := own_len hown10
                    rw [← hlen10] at hown10
                    clear hown9 hgrow9 hgrow10 hown7 hgrow7 ho7 ho8 ht8 hl8 hl9 hl7 hp1 hp2 hat7 he8 hx7 hx8 hx9
                    go_wp2_with fail
                    go_roundw
                    case rel => exact ⟨j + 1, by go_num, by omega, hx10, hown10, b10⟩
                    case measure => simp [intOf]; omega
                · obtain ⟨p, hp⟩ : ∃ p, t = p + 1 := ⟨t - 1, by omega⟩
                  have hpl : p < (outM Ls i L j).length := by omega
                  have hod : (outM Ls i L j)[p]? = some (outM Ls i L j)[p] := List.getElem?_eq_getElem hpl
                  have hcl := hown3.cells (g := g) rfl (p * 6) _ (ents_get hod 0 (by decide))
                  rw [Addr.add_lit, Nat.zero_add] at hcl
                  generalize (outM Ls i L j)[p] = dd at *
                  have hcl : wr.cell? ⟨g, p * 6, none⟩ = some (.int .i64 dd.block) := hcl
                  have HD1 := Lib.hid (fun (h : eb < dd.block) (q : Nat) (d : Ent) (hq : p ≤ q) (h9 : (outM Ls i L j)[q]? = some d) => (show eb < d.block from by
                    rcases Nat.lt_or_ge p q with h1 | h1
                    · exact HGT.out q d (by omega) h9
                    · obtain rfl : q = p := by omega
                      rw [hod] at h9
                      obtain rfl := Option.some.inj h9
                      exact h))
                  have HD2 := Lib.hid (fun (h : ¬ eb < dd.block) => (show t = 0 ∨ ∃ p d, t = p + 1 ∧ (outM Ls i L j)[p]? = some d ∧ d.block ≤ eb from .inr ⟨p, dd, hp, hod, by omega⟩))
                  have d1 : decide (0 < (t : Int)) = true := by simp; omega
                  have d2 : decide (0 < t) = true := by simp; omega
                  have ht0 : (0 : Int) < (t : Int) := by omega
                  have hpw : IntKind.i64.wrap ((t : Int) - 1) = (p : Int) := by rw [IntWalk.i64_in _ (by omega)]; omega
                  have hpN : (p : Int) < (N : Int) := by omega
                  have HPP := Lib.hid hp
                  clear hod hpl hp
                  generalize dd.block = D at *
                  by_cases hD : eb < D
                  · have d3 : decide (eb < D) = true := by simpa using hD
                    have HG2 := Lib.hid (HD1.out hD)
                    go_wp2_with fail
                    refine Plan.start (fun W => W.cell? ⟨w.heap.size, 0, none⟩ = some (.slice (some x) n c) ∧ W.cell? (x.add i) = some (.slice (some y) m kk) ∧ W.cell? (y.add (j * 6)) = some (.int .i64 eb) ∧ W.cell? ⟨g, p * 6, none⟩ = some (.int .i64 D)) [(0, true), (1, true), (2, true), (3, true), (4, true), (5, true), (6, true), (7, true), (8, true), (9, true), (10, true), (11, true), (12, true), (13, true), (14, true), (15, true), (16, true), (17, true), (18, true), (19, true)] (by kernel_rfl) (by kernel_rfl) (by kernel_rfl) (by kernel_rfl) ⟨hc3, cX, cE, hcl⟩ ?_
                    simp only [List.map_cons, List.map_nil, List.getElem?_toArray, List.getElem?_cons_zero, List.getElem?_cons_succ]
                    repeat (first | (refine Plan.take ?_ (by rfl) ?_ ?_; rotate_left; (· rintro w9 ⟨u0, u1, u2, u3⟩; go_simp; (try rw [if_neg (by omega)]); all_goals (with_reducible rfl)); simp only [Act.put, List.setIfInBounds_toArray, List.set_cons_zero, List.set_cons_succ]) | (refine Plan.pass (by rfl) ?_; simp only [Act.put, List.setIfInBounds_toArray, List.set_cons_zero, List.set_cons_succ]))
                    refine Plan.ends ?_
                    have hx4 : wr.drew.heap[w.heap.size]? = _ := hx3
                    have hb4 := hb3.drew
                    have hown4 := e_owns_drew hown3
                    clear hc3 cE cX hcl hown3 hx3 hb3
                    go_wp2_with fail
                    go_roundw
                    case rel => exact ⟨p, rfl, by have := HPP.out; omega, HG2, hown4, hx4, hb4⟩
                    case measure => have := HPP.out; simp [intOf]; omega
                  · have d3 : decide (eb < D) = false := by simpa using hD
                    have hstop := HD2.out hD
                    have htI : (t : Int) ≤ (cap : Int) := by omega
                    have htN : (t : Int) ≤ (N : Int) := by omega
                    have hNc : (N : Int) ≤ (cap : Int) := by omega
                    go_wp2_with fail
                    refine Plan.start (fun W => W.cell? ⟨w.heap.size, 0, none⟩ = some (.slice (some x) n c) ∧ W.cell? (x.add i) = some (.slice (some y) m kk) ∧ W.cell? (y.add (j * 6)) = some (.int .i64 eb) ∧ W.cell? ⟨g, p * 6, none⟩ = some (.int .i64 D)) [(0, true), (1, true), (2, true), (3, true), (4, true), (5, true), (6, true), (7, true), (8, true), (9, true), (10, true), (11, true), (12, true), (13, true), (14, true), (15, true), (16, true), (17, true), (18, true), (19, true)] (by kernel_rfl) (by kernel_rfl) (by kernel_rfl) (by kernel_rfl) ⟨hc3, cX, cE, hcl⟩ ?_
                    simp only [List.map_cons, List.map_nil, List.getElem?_toArray, List.getElem?_cons_zero, List.getElem?_cons_succ]
                    repeat (first | (refine Plan.take ?_ (by rfl) ?_ ?_; rotate_left; (· rintro w9 ⟨u0, u1, u2, u3⟩; go_simp; (try rw [if_neg (by omega)]); all_goals (with_reducible rfl)); simp only [Act.put, List.setIfInBounds_toArray, List.set_cons_zero, List.set_cons_succ]) | (refine Plan.pass (by rfl) ?_; simp only [Act.put, List.setIfInBounds_toArray, List.set_cons_zero, List.set_cons_succ]))
                    refine Plan.ends ?_
                    have hx3 : wr.drew.heap[w.heap.size]? = _ := hx3
                    have hb3 := hb3.drew
                    have hown3 := e_owns_drew hown3
                    clear hc3 cE cX hcl hpw ht0 d1 d2 d3 hpN HPP HD1 HD2 hD
                    generalize wr.drew = wr at *
                    have hc3 := map_row hx3
                    have cX := (HP.out wr hb3).1
                    by_cases hct : t = cap
                    · obtain rfl := hct
                      obtain rfl : t = N := by omega
                      have bE := hb3.alloc hb3.size (.cells #[] 28)
                      have hsz3 := e_lt hx3
                      have hsrc : EList (wr.alloc (.cells #[] 28)) (fun _ => True) (some ⟨g, 0, none⟩) 0 0 ((outM Ls i L j).drop t) := by
                        obtain ⟨-, a9, c9, h9, hl9⟩ := owns_ents (F := fun _ => True) hown3 (fun _ _ => trivial)
                        cases h9
                        have hd := (hl9.on (Same.alloc wr (.cells #[] 28))).dropped t (by omega)
                        rw [if_pos rfl, Nat.sub_self] at hd; exact hd
                      have HSRC := Lib.hid hsrc
                      clear hsrc
                      go_wp2_with (first
                        | (at_builtin; refine append_ents (F := fun _ => True) rfl (.tmp 52) (.tmp 55) rfl wr.heap.size (.slice (some ⟨wr.heap.size, 0, none⟩) 0 0) 0 [] rfl (ents_empty wr rfl) (some ⟨g, 0, none⟩) 0 0 ((outM Ls i L j).drop t) rfl HSRC.out (by omega) (by simp) ?_; intro v7 w7 hown7 hgrow7; rw [Nat.zero_add, List.nil_append] at hown7; have b7 := bE.grown hgrow7 bE.size (fun z9 h9 => by have h8 := Option.some.inj (show some wr.heap.size = some z9 from h9); omega); have hx7 := (hgrow7.block w.heap.size (by simp only [World.size_alloc]; omega) (fun h9 => by have h8 := Option.some.inj (show some _ = some wr.heap.size from h9); omega)).trans (e_al hx3 (.cells #[] 28)); have ho7 := own_far (hown3.kept (World.grownBy_alloc wr (.cells #[] 28) none) (by cases (Value.slice (some ⟨g, 0, none⟩) t t).ownBlock <;> simp)) hgrow7 (fun b h8 h9 => by have h6 := (hown3.lt b h8).2; have h5 := Option.some.inj (show some wr.heap.size = some b from h9); omega)))
                      obtain ⟨hp1, hp2⟩ := HP.out w7 b7
                      have hat7 := HATE.out w7 b7
                      obtain ⟨-, a7, c7, rfl, hl7⟩ := owns_ents (F := fun b => wr.heap.size ≤ b) hown7 (fun b hb9 => (hown7.lt b hb9).1)
                      refine Plan.start (fun W => W.cell? ⟨w.heap.size, 0, none⟩ = some (.slice (some x) n c) ∧ W.cell? (x.add i) = some (.slice (some y) m kk) ∧ EntAt W y j ⟨eb, ek, ev, em, ez, eo⟩) [(0, true), (1, true), (2, true), (3, true), (4, true), (5, true), (6, true), (7, true), (8, true), (9, true), (10, true), (13, true), (11, false), (12, false), (14, false), (15, true)] (by kernel_rfl) (by kernel_rfl) (by kernel_rfl) (by kernel_rfl) ⟨map_row hx7, hp1, hat7⟩ ?_
                      simp only [List.map_cons, List.map_nil, List.getElem?_toArray, List.getElem?_cons_zero, List.getElem?_cons_succ]
                      repeat (first | (refine Plan.take ?_ (by rfl) ?_ ?_; rotate_left; (· rintro w9 ⟨u0, u1, u2, u3, u4, u5, u6, u7⟩; go_simp; (try rw [if_neg (by omega)]); all_goals (with_reducible rfl)); simp only [Act.put, List.setIfInBounds_toArray, List.set_cons_zero, List.set_cons_succ]) | (refine Plan.pass (by rfl) ?_; simp only [Act.put, List.setIfInBounds_toArray, List.set_cons_zero, List.set_cons_succ]))
                      have b8 : Below w.heap.size w (w7.drew.alloc (entRow eb ek ev em ez eo)) := b7.drew.alloc b7.drew.size _
                      have hx8 : (w7.drew.alloc (entRow eb ek ev em ez eo)).heap[w.heap.size]? = _ := e_al (show w7.drew.heap[w.heap.size]? = _ from hx7) (entRow eb ek ev em ez eo)
                      have he8 : (w7.drew.alloc (entRow eb ek ev em ez eo)).heap[w7.heap.size]? = some (entRow eb ek ev em ez eo) := heap_alloc_new w7.drew (entRow eb ek ev em ez eo)
                      have ho8 := own_far (w' := w7.drew.alloc (entRow eb ek ev em ez eo)) ho7 (r := none) ⟨rfl, rfl, rfl, by simp only [World.size_alloc]; exact Nat.le_succ _, fun q hq _ => Below.heap_alloc _ _ _ hq⟩ (fun b _ h9 => by cases h9)
                      have hl8 : EList (w7.drew.alloc (entRow eb ek ev em ez eo)) (fun b => wr.heap.size ≤ b ∧ b < w7.heap.size) a7 _ c7 ((outM Ls i L j).drop t) := hl7.cut.on (Same.alloc w7.drew (entRow eb ek ev em ez eo))
                      refine Plan.make (by rfl) (.slice (some ⟨w7.heap.size, 0, none⟩) 1 1) (w7.drew.alloc (entRow eb ek ev em ez eo)) ?_ ⟨map_row hx8, (HP.out _ b8).1, HATE.out _ b8⟩ ?_
                      · go_simp
                      simp only [Act.put, List.setIfInBounds_toArray, List.set_cons_zero, List.set_cons_succ]
                      have ht8 := own_take ho8 (show t ≤ t by omega)
                      have hB8 : w.heap.size + 1 ≤ (w7.drew.alloc (entRow eb ek ev em ez eo)).heap.size := by have := e_lt hx8; omega
                      refine Plan.carry (by rfl) (wp_append_ents (F := fun _ => True) (.tmp 59) (.tmp 68) rfl (w.heap.size + 1) (.slice (some ⟨g, 0, none⟩) t t) t ((outM Ls i L j).take t) rfl (w := w7.drew.alloc (entRow eb ek ev em ez eo)) ht8 (some ⟨w7.heap.size, 0, none⟩) 1 1 [⟨eb, ek, ev, em, ez, eo⟩] rfl (elist_one he8) (by omega) hB8 ?_)
                      intro v9 w9 hown9 hgrow9
                      have hgB : w.heap.size + 1 ≤ g ∧ g < wr.heap.size := hown3.lt g rfl
                      have b9 := b8.grown hgrow9 b8.size (fun z9 h9 => by have h8 := Option.some.inj (show some g = some z9 from h9); omega)
                      have hx9 := (hgrow9.block w.heap.size (e_lt hx8) (fun h9 => by have h8 := Option.some.inj (show some _ = some g from h9); omega)).trans hx8
                      have hl9 : EList w9 (fun b => wr.heap.size ≤ b ∧ b < w7.heap.size) a7 _ c7 ((outM Ls i L j).drop t) := hl8.on ⟨hgrow9.size, fun b h1 h2 => hgrow9.block b h2 (fun h9 => by have h8 := Option.some.inj (show some b = some g from h9); have := h1.1; omega)⟩
                      refine ⟨⟨map_row hx9, (HP.out _ b9).1, HATE.out _ b9⟩, ?_⟩
                      simp only [Act.put, List.setIfInBounds_toArray, List.set_cons_zero, List.set_cons_succ]
                      repeat (first | (refine Plan.take ?_ (by rfl) ?_ ?_; rotate_left; (· rintro w9 ⟨u0, u1, u2, u3, u4, u5, u6, u7⟩; go_simp; (try rw [if_neg (by omega)]); all_goals (with_reducible rfl)); simp only [Act.put, List.setIfInBounds_toArray, List.set_cons_zero, List.set_cons_succ]) | (refine Plan.pass (by rfl) ?_; simp only [Act.put, List.setIfInBounds_toArray, List.set_cons_zero, List.set_cons_succ]))
                      have hB9 : w.heap.size + 1 ≤ w9.heap.size := Nat.le_trans hB8 hgrow9.size
                      refine Plan.carry (by rfl) (wp_append_ents (F := fun b => wr.heap.size ≤ b ∧ b < w7.heap.size) (.tmp 69) (.tmp 70) rfl (w.heap.size + 1) v9 _ _ rfl (w := w9) hown9 a7 _ c7 ((outM Ls i L j).drop t) rfl hl9 (by omega) hB9 ?_)
                      intro v10 w10 hown10 hgrow10
                      have b10 := b9.grown hgrow10 b9.size (fun z9 h9 => by have := (hown9.lt z9 h9).1; omega)
                      have hx10 := (hgrow10.block w.heap.size (e_lt hx9) (fun h9 => by have := (hown9.lt _ h9.symm).1; omega)).trans hx9
                      refine ⟨⟨map_row hx10, (HP.out _ b10).1, HATE.out _ b10⟩, ?_⟩
                      simp only [Act.put, List.setIfInBounds_toArray, List.set_cons_zero, List.set_cons_succ]
                      repeat (first | (refine Plan.take ?_ (by rfl) ?_ ?_; rotate_left; (· rintro w9 ⟨u0, u1, u2, u3, u4, u5, u6, u7⟩; go_simp; (try rw [if_neg (by omega)]); all_goals (with_reducible rfl)); simp only [Act.put, List.setIfInBounds_toArray, List.set_cons_zero, List.set_cons_succ]) | (refine Plan.pass (by rfl) ?_; simp only [Act.put, List.setIfInBounds_toArray, List.set_cons_zero, List.set_cons_succ]))
                      refine Plan.ends ?_
                      rw [HINS.out t (by omega) HGT.out hstop] at hown10
                      have hlen10 := own_len hown10
                      rw [← hlen10] at hown10
                      clear hown9 hgrow9 hgrow10 hown7 hgrow7 ho7 ho8 ht8 hl8 hl9 hl7 hp1 hp2 hat7 he8 hx7 hx8 hx9
                      go_wp2_with fail
                      go_roundw
                      case rel => exact ⟨j + 1, by go_num, by omega, hx10, hown10, b10⟩
                      case measure => simp [intOf]; omega
                    · have hct : ¬ cap = t := fun h => hct h.symm
                      have bE := hb3.alloc hb3.size (.cells #[] 28)
                      have hsz3 := e_lt hx3
                      have hsrc : EList (wr.alloc (.cells #[] 28)) (fun _ => True) (some ⟨g, t * 6, none⟩) (N - t) (cap - t) ((outM Ls i L j).drop t) := by
                        obtain ⟨-, a9, c9, h9, hl9⟩ := owns_ents (F := fun _ => True) hown3 (fun _ _ => trivial)
                        cases h9
                        have hd := (hl9.on (Same.alloc wr (.cells #[] 28))).dropped t (by omega)
                        rw [if_neg hct, Addr.add_lit, Nat.zero_add] at hd; exact hd
                      have HSRC := Lib.hid hsrc
                      clear hsrc
                      go_wp2_with (first
                        | (at_builtin; refine append_ents (F := fun _ => True) rfl (.tmp 52) (.tmp 55) rfl wr.heap.size (.slice (some ⟨wr.heap.size, 0, none⟩) 0 0) 0 [] rfl (ents_empty wr rfl) (some ⟨g, t * 6, none⟩) (N - t) (cap - t) ((outM Ls i L j).drop t) rfl HSRC.out (by omega) (by simp) ?_; intro v7 w7 hown7 hgrow7; rw [Nat.zero_add, List.nil_append] at hown7; have b7 := bE.grown hgrow7 bE.size (fun z9 h9 => by have h8 := Option.some.inj (show some wr.heap.size = some z9 from h9); omega); have hx7 := (hgrow7.block w.heap.size (by simp only [World.size_alloc]; omega) (fun h9 => by have h8 := Option.some.inj (show some _ = some wr.heap.size from h9); omega)).trans (e_al hx3 (.cells #[] 28)); have ho7 := own_far (hown3.kept (World.grownBy_alloc wr (.cells #[] 28) none) (by cases (Value.slice (some ⟨g, 0, none⟩) N cap).ownBlock <;> simp)) hgrow7 (fun b h8 h9 => by have h6 := (hown3.lt b h8).2; have h5 := Option.some.inj (show some wr.heap.size = some b from h9); omega)))
                      obtain ⟨hp1, hp2⟩ := HP.out w7 b7
                      have hat7 := HATE.out w7 b7
                      obtain ⟨-, a7, c7, rfl, hl7⟩ := owns_ents (F := fun b => wr.heap.size ≤ b) hown7 (fun b hb9 => (hown7.lt b hb9).1)
                      refine Plan.start (fun W => W.cell? ⟨w.heap.size, 0, none⟩ = some (.slice (some x) n c) ∧ W.cell? (x.add i) = some (.slice (some y) m kk) ∧ EntAt W y j ⟨eb, ek, ev, em, ez, eo⟩) [(0, true), (1, true), (2, true), (3, true), (4, true), (5, true), (6, true), (7, true), (8, true), (9, true), (10, true), (13, true), (11, false), (12, false), (14, false), (15, true)] (by kernel_rfl) (by kernel_rfl) (by kernel_rfl) (by kernel_rfl) ⟨map_row hx7, hp1, hat7⟩ ?_
                      simp only [List.map_cons, List.map_nil, List.getElem?_toArray, List.getElem?_cons_zero, List.getElem?_cons_succ]
                      repeat (first | (refine Plan.take ?_ (by rfl) ?_ ?_; rotate_left; (· rintro w9 ⟨u0, u1, u2, u3, u4, u5, u6, u7⟩; go_simp; (try rw [if_neg (by omega)]); all_goals (with_reducible rfl)); simp only [Act.put, List.setIfInBounds_toArray, List.set_cons_zero, List.set_cons_succ]) | (refine Plan.pass (by rfl) ?_; simp only [Act.put, List.setIfInBounds_toArray, List.set_cons_zero, List.set_cons_succ]))
                      have b8 : Below w.heap.size w (w7.drew.alloc (entRow eb ek ev em ez eo)) := b7.drew.alloc b7.drew.size _
                      have hx8 : (w7.drew.alloc (entRow eb ek ev em ez eo)).heap[w.heap.size]? = _ := e_al (show w7.drew.heap[w.heap.size]? = _ from hx7) (entRow eb ek ev em ez eo)
                      have he8 : (w7.drew.alloc (entRow eb ek ev em ez eo)).heap[w7.heap.size]? = some (entRow eb ek ev em ez eo) := heap_alloc_new w7.drew (entRow eb ek ev em ez eo)
                      have ho8 := own_far (w' := w7.drew.alloc (entRow eb ek ev em ez eo)) ho7 (r := none) ⟨rfl, rfl, rfl, by simp only [World.size_alloc]; exact Nat.le_succ _, fun q hq _ => Below.heap_alloc _ _ _ hq⟩ (fun b _ h9 => by cases h9)
                      have hl8 : EList (w7.drew.alloc (entRow eb ek ev em ez eo)) (fun b => wr.heap.size ≤ b ∧ b < w7.heap.size) a7 _ c7 ((outM Ls i L j).drop t) := hl7.cut.on (Same.alloc w7.drew (entRow eb ek ev em ez eo))
                      refine Plan.make (by rfl) (.slice (some ⟨w7.heap.size, 0, none⟩) 1 1) (w7.drew.alloc (entRow eb ek ev em ez eo)) ?_ ⟨map_row hx8, (HP.out _ b8).1, HATE.out _ b8⟩ ?_
                      · go_simp
                      simp only [Act.put, List.setIfInBounds_toArray, List.set_cons_zero, List.set_cons_succ]
                      have ht8 := own_take ho8 (show t ≤ N by omega)
                      have hB8 : w.heap.size + 1 ≤ (w7.drew.alloc (entRow eb ek ev em ez eo)).heap.size := by have := e_lt hx8; omega
                      refine Plan.carry (by rfl) (wp_append_ents (F := fun _ => True) (.tmp 59) (.tmp 68) rfl (w.heap.size + 1) (.slice (some ⟨g, 0, none⟩) t cap) t ((outM Ls i L j).take t) rfl (w := w7.drew.alloc (entRow eb ek ev em ez eo)) ht8 (some ⟨w7.heap.size, 0, none⟩) 1 1 [⟨eb, ek, ev, em, ez, eo⟩] rfl (elist_one he8) (by omega) hB8 ?_)
                      intro v9 w9 hown9 hgrow9
                      have hgB : w.heap.size + 1 ≤ g ∧ g < wr.heap.size := hown3.lt g rfl
                      have b9 := b8.grown hgrow9 b8.size (fun z9 h9 => by have h8 := Option.some.inj (show some g = some z9 from h9); omega)
                      have hx9 := (hgrow9.block w.heap.size (e_lt hx8) (fun h9 => by have h8 := Option.some.inj (show some _ = some g from h9); omega)).trans hx8
                      have hl9 : EList w9 (fun b => wr.heap.size ≤ b ∧ b < w7.heap.size) a7 _ c7 ((outM Ls i L j).drop t) := hl8.on ⟨hgrow9.size, fun b h1 h2 => hgrow9.block b h2 (fun h9 => by have h8 := Option.some.inj (show some b = some g from h9); have := h1.1; omega)⟩
                      refine ⟨⟨map_row hx9, (HP.out _ b9).1, HATE.out _ b9⟩, ?_⟩
                      simp only [Act.put, List.setIfInBounds_toArray, List.set_cons_zero, List.set_cons_succ]
                      repeat (first | (refine Plan.take ?_ (by rfl) ?_ ?_; rotate_left; (· rintro w9 ⟨u0, u1, u2, u3, u4, u5, u6, u7⟩; go_simp; (try rw [if_neg (by omega)]); all_goals (with_reducible rfl)); simp only [Act.put, List.setIfInBounds_toArray, List.set_cons_zero, List.set_cons_succ]) | (refine Plan.pass (by rfl) ?_; simp only [Act.put, List.setIfInBounds_toArray, List.set_cons_zero, List.set_cons_succ]))
                      have hB9 : w.heap.size + 1 ≤ w9.heap.size := Nat.le_trans hB8 hgrow9.size
                      refine Plan.carry (by rfl) (wp_append_ents (F := fun b => wr.heap.size ≤ b ∧ b < w7.heap.size) (.tmp 69) (.tmp 70) rfl (w.heap.size + 1) v9 _ _ rfl (w := w9) hown9 a7 _ c7 ((outM Ls i L j).drop t) rfl hl9 (by omega) hB9 ?_)
                      intro v10 w10 hown10 hgrow10
                      have b10 := b9.grown hgrow10 b9.size (fun z9 h9 => by have := (hown9.lt z9 h9).1; omega)
                      have hx10 := (hgrow10.block w.heap.size (e_lt hx9) (fun h9 => by have := (hown9.lt _ h9.symm).1; omega)).trans hx9
                      refine ⟨⟨map_row hx10, (HP.out _ b10).1, HATE.out _ b10⟩, ?_⟩
                      simp only [Act.put, List.setIfInBounds_toArray, List.set_cons_zero, List.set_cons_succ]
                      repeat (first | (refine Plan.take ?_ (by rfl) ?_ ?_; rotate_left; (· rintro w9 ⟨u0, u1, u2, u3, u4, u5, u6, u7⟩; go_simp; (try rw [if_neg (by omega)]); all_goals (with_reducible rfl)); simp only [Act.put, List.setIfInBounds_toArray, List.set_cons_zero, List.set_cons_succ]) | (refine Plan.pass (by rfl) ?_; simp only [Act.put, List.setIfInBounds_toArray, List.set_cons_zero, List.set_cons_succ]))
                      refine Plan.ends ?_
                      rw [HINS.out t (by omega) HGT.out hstop] at hown10
                      have hlen10 := own_len hown10
                      rw [← hlen10] at hown10
                      clear hown9 hgrow9 hgrow10 hown7 hgrow7 ho7 ho8 ht8 hl8 hl9 hl7 hp1 hp2 hat7 he8 hx7 hx8 hx9
                      go_wp2_with fail
                      go_roundw
                      case rel => exact ⟨j + 1, by go_num, by omega, hx10, hown10, b10⟩
                      case measure => simp [intOf]; omega
          · obtain rfl : j = m := by omega
            have hR : outM Ls i L j = outM Ls (i + 1) [] 0 := by rw [← hml]; exact outM_row hL
            rw [hR] at hown
            go_wp2_with fail
            go_roundw
            case rel => exact ⟨i + 1, by go_num, by omega, hx, hown, hb⟩
            case measure => simp [intOf]; omega
      · obtain rfl : i = n := by omega
        rw [outM_end hva [] hlen] at hown
        obtain ⟨-, a9, c9, rfl, hl9⟩ := owns_ents (F := fun q => w.heap.size ≤ q) hown (fun q hq => by have := (hown.lt q hq).1; omega)
        go_wp2_with fail
        go_ret
        exact ⟨_, _, _, rfl, hl9, hb⟩
end Go.Proofs.Ytljobnfilnbefaa.Ents

/- What the program's map is to do, in the words of the contracts of the document's own; the walk of the law's agree under it. -/
namespace Go.Proofs.Ytljobnfilnbefaa.Ents
open Go.RowKit Plan EntMath
/-- a map of too many shards may be of any length: it is none -/
def Near (Ls : List (List Ent)) : Prop := Ls.length ≤ 8 → Ls.flatten.length ≤ 100000
structure MapOk : Prop where
  new : ∀ (s : Int) (w : World), Calls Try.prog 12 #[.int .i64 s] w fun r w' => ∃ a n c, r = .returned (.tuple #[mapV a n c, .int .i64 (newME s)]) ∧ MList w' (fun b => w.heap.size ≤ b) a n c (newM s) ∧ Below w.heap.size w w'
  valid : ∀ (F : Nat → Prop) (Ls : List (List Ent)) (a : Option Addr) (n c : Nat) (w : World), MList w F a n c Ls → Near Ls →
    Calls Try.prog 27 #[mapV a n c] w fun r w' => r = .returned (.bool (validM Ls)) ∧ Below w.heap.size w w'
  stripe : ∀ (F : Nat → Prop) (Ls : List (List Ent)) (b : Int) (a : Option Addr) (n c : Nat) (w : World), MList w F a n c Ls →
    Calls Try.prog 29 #[mapV a n c, .int .i64 b] w fun r w' => r = .returned (.int .i64 (stripe Ls b)) ∧ Below w.heap.size w w'
  lookup : ∀ (F : Nat → Prop) (Ls : List (List Ent)) (b : Int) (a : Option Addr) (n c : Nat) (w : World), MList w F a n c Ls → Near Ls →
    Calls Try.prog 22 #[mapV a n c, .int .i64 b] w fun r w' => r = .returned (lookV Ls b) ∧ Below w.heap.size w w'
  install : ∀ (F : Nat → Prop) (Ls : List (List Ent)) (e : Ent) (a : Option Addr) (n c : Nat) (w : World), (∀ b, F b → b < w.heap.size) → MList w F a n c Ls → Near Ls →
    Calls Try.prog 24 #[mapV a n c, entV e] w (InstMPost w F (installM Ls e) (installME Ls e) (newerM Ls e))
  relocate : ∀ (F : Nat → Prop) (Ls : List (List Ent)) (b v fz fo tz to m : Int) (a : Option Addr) (n c : Nat) (w : World), (∀ b, F b → b < w.heap.size) → MList w F a n c Ls → Near Ls →
    Calls Try.prog 23 #[mapV a n c, .int .i64 b, .int .i64 v, .agg #[.int .i64 fz, .int .i64 fo], .agg #[.int .i64 tz, .int .i64 to], .int .i64 m] w (RelMPost w F (relocM Ls b v fz fo tz to m) (movesM Ls b v fz fo tz to m))
  drop : ∀ (F : Nat → Prop) (Ls : List (List Ent)) (i cut : Int) (a : Option Addr) (n c : Nat) (w : World), (∀ b, F b → b < w.heap.size) → MList w F a n c Ls → Near Ls →
    Calls Try.prog 21 #[mapV a n c, .int .i64 i, .int .i64 cut] w (DropMPost w F (dropM Ls i cut) (goneM Ls i cut))
  all : ∀ (F : Nat → Prop) (Ls : List (List Ent)) (a : Option Addr) (n c : Nat) (w : World), (∀ b, F b → b < w.heap.size) → MList w F a n c Ls → Near Ls →
    Calls Try.prog 26 #[mapV a n c] w fun r w' => ∃ b m d, r = .returned (.slice b m d) ∧ EList w' (Plus F w.heap.size) b m d (allM Ls) ∧ Below w.heap.size w w'
theorem flat_each {Ls : List (List Ent)} {k : Nat} (h : Ls.flatten.length ≤ k) : ∀ L ∈ Ls, L.length ≤ k := by
  intro L hL
  induction Ls with
  | nil => cases hL
  | cons M Ls ih =>
    rw [List.flatten_cons, List.length_append] at h
    rcases List.mem_cons.1 hL with rfl | hL
    · omega
    · exact ih (by omega) hL
set_option maxHeartbeats 16000000 in
set_option maxRecDepth 20000 in
theorem mapAgree_any (H : MapOk) (F : Nat → Prop) (Ls : List (List Ent)) (e : Ent) (block version cut fz fo tz to : Int) (a : Option Addr) (n c : Nat) (w : World) (hl : MList w F a n c Ls) (hm : Near Ls) :
    Calls Try.prog 8 #[mapV a n c, entV e, .int .i64 block, .int .i64 version, .int .i64 cut, .agg #[.int .i64 fz, .int .i64 fo], .agg #[.int .i64 tz, .int .i64 to]] w fun r w' => r = .returned (.bool true) ∧ Below w.heap.size w w' := by
  have hlen := hl.length
  have hA : Below w.heap.size w ((((w.alloc (mapRow a n c)).alloc (entRow e.block e.kind e.version e.move e.zone e.offset)).alloc (placeRow fz fo)).alloc (placeRow tz to)) := ((((Below.refl w.heap.size w).alloc (Nat.le_refl _) _).alloc (by simp) _).alloc (by simp; omega) _).alloc (by simp; omega) _
  obtain ⟨hx0, he0, hp0, hq0⟩ := heap4 w (mapRow a n c) (entRow e.block e.kind e.version e.move e.zone e.offset) (placeRow fz fo) (placeRow tz to)
  have hlw : ∀ W, Below w.heap.size w W → MList W (fun b => b < w.heap.size) a n c Ls := fun W h => hl.same h
  have hFw : ∀ W, Below w.heap.size w W → ∀ b, b < w.heap.size → b < W.heap.size := fun W h b hb => Nat.lt_of_lt_of_le hb h.size
  have hme : Ls.length ≤ 8 → ∀ L ∈ Ls, L.length ≤ 900000 := fun h8 L hL => Nat.le_trans (flat_each (hm h8) L hL) (by decide)
  have f1 := Lib.hid fun W h => H.lookup _ Ls block a n c W (hlw W h) hm
  have f2 := Lib.hid fun W h => refLookupM_any _ Ls block a n c W (hlw W h)
  have v1 := Lib.hid fun W h => H.valid _ Ls a n c W (hlw W h) hm
  have v2 := Lib.hid fun W h => refValidM_any _ Ls a n c W (hlw W h)
  have T1 := Lib.hid fun W h => H.stripe _ Ls block a n c W (hlw W h)
  have T2 := Lib.hid fun W => refStripe_any Ls block a n c W hlen
  have a1 := Lib.hid fun W h => H.all _ Ls a n c W (hFw W h) (hlw W h) hm
  have a2 := Lib.hid fun W h => refAllM_any _ Ls a n c W (hlw W h) (fun h8 => Nat.le_trans (hm h8) (by decide))
  have i1 := fun W h => H.install _ Ls e a n c W (hFw W h) (hlw W h) hm
  have i2 := fun W h => refInstM_any _ Ls e a n c W (hlw W h) hme
  have r1 := Lib.hid fun W h => H.relocate _ Ls block version fz fo tz to e.move a n c W (hFw W h) (hlw W h) hm
  have r2 := Lib.hid fun W h => refRelocM_any _ Ls block version fz fo tz to e.move a n c W (hlw W h) hme
  have D1 := Lib.hid fun W h => H.drop _ Ls block cut a n c W (hFw W h) (hlw W h) hm
  have D2 := Lib.hid fun W h => refDropM_any _ Ls block cut a n c W (hlw W h) hme
  clear hlw hFw hl hme
  unfold lookV at f1 f2
  unfold InstMPost at i1 i2
  unfold RelMPost at r1 r2
  unfold DropMPost at D1 D2
  generalize (lookM Ls block).getD zeroE = X at f1 f2
  generalize (lookM Ls block).isSome = XB at f1 f2
  generalize validM Ls = VB at v1 v2
  generalize stripe Ls block = ST at T1 T2
  generalize allM Ls = AL at a1 a2
  generalize installM Ls e = IL at i1 i2
  generalize installME Ls e = IE at i1 i2
  generalize newerM Ls e = IB at i1 i2
  obtain ⟨eb, ek, ev, em, ez, eo⟩ := e
  obtain ⟨xb, xk, xv, xm, xz, xo⟩ := X
  obtain ⟨yb, yk, yv, ym, yz, yo⟩ := IE
  try simp only at f1 f2 i1 i2 r1 r2 hA he0
  have HI1 := Lib.hid i1
  have HI2 := Lib.hid i2
  clear i1 i2
  generalize relocM Ls block version fz fo tz to em = RL at r1 r2
  generalize movesM Ls block version fz fo tz to em = RB at r1 r2
  generalize dropM Ls block cut = SL at D1 D2
  generalize goneM Ls block cut = GL at D1 D2
  go_enter Try.func8, Try.ntmps8
  generalize hw0 : (((w.alloc (mapRow a n c)).alloc (entRow eb ek ev em ez eo)).alloc (placeRow fz fo)).alloc (placeRow tz to) = w0 at *
  have HM := Lib.hid fun W (h : Below w0.heap.size w0 W) => map_row (e_on h hx0 (e_lt hx0))
  have HE := Lib.hid fun W (h : Below w0.heap.size w0 W) => entry_row (e_on h he0 (e_lt he0))
  have HP := Lib.hid fun W (h : Below w0.heap.size w0 W) => place_row (e_on h hp0 (e_lt hp0))
  have HQ := Lib.hid fun W (h : Below w0.heap.size w0 W) => place_row (e_on h hq0 (e_lt hq0))
  clear hx0 he0 hp0 hq0
  have c0 := Below.refl w0.heap.size w0
  have b0 := hA
  have k0 := HM.out _ c0
  obtain ⟨d0, d1, d2, d3, d4, d5⟩ := HE.out _ c0
  obtain ⟨p0, p1⟩ := HP.out _ c0
  obtain ⟨q0, q1⟩ := HQ.out _ c0
  go_wp2_with (first
    | (go_at_call 22; ((with_reducible refine (f1.out _ b0).mono ?_); rintro r9 w1 ⟨rfl, h1⟩; have b1 := b0.trans (h1.mono b0.size); have c1 := c0.trans (h1.mono c0.size); have b1 := b1.alloc b1.size (entRow xb xk xv xm xz xo); have c1 := c1.alloc c1.size (entRow xb xk xv xm xz xo); have s1 := heap_alloc_new w1 (entRow xb xk xv xm xz xo); clear k0; have k0 := HM.out _ c1))
    | (go_at_call 18; ((with_reducible refine (f2.out _ b1).mono ?_); rintro r9 w2 ⟨rfl, h2⟩; have b2 := b1.trans (h2.mono b1.size); have c2 := c1.trans (h2.mono c1.size); have b2 := b2.alloc b2.size (entRow xb xk xv xm xz xo); have c2 := c2.alloc c2.size (entRow xb xk xv xm xz xo); have s2 := e_al (e_on h2 s1 (e_lt s1)) (entRow xb xk xv xm xz xo); have u2' := heap_alloc_new w2 (entRow xb xk xv xm xz xo); clear k0; have k0 := HM.out _ c2)))
  clear k0 d0 d1 d2 d3 d4 d5 p0 p1 q0 q1
  have k2 := HM.out _ c2
  have b2' := b2.drew
  have c2' := c2.drew
  have sa0 : (w2.alloc (entRow xb xk xv xm xz xo)).drew.heap[w1.heap.size]? = _ := s2
  have sb0 : (w2.alloc (entRow xb xk xv xm xz xo)).drew.heap[w2.heap.size]? = _ := u2'
  refine Plan.start (fun W => W.cell? ⟨w.heap.size, 0, none⟩ = some (.slice a n c) ∧ Six W w1.heap.size xb xk xv xm xz xo ∧ Six W w2.heap.size xb xk xv xm xz xo) [(0, true), (1, true), (2, true), (3, true), (4, true), (5, true), (6, true), (7, true), (8, true), (9, true), (11, true), (10, false), (12, false), (13, true), (14, true), (15, true), (16, true), (17, true), (19, true), (20, true), (18, false), (21, false), (22, true), (23, true), (24, true), (25, true), (27, true), (26, false), (28, false), (29, false), (30, true), (31, true)] (by kernel_rfl) (by kernel_rfl) (by kernel_rfl) (by kernel_rfl) ⟨k2, entry_row s2, entry_row u2'⟩ ?_
  simp only [List.map_cons, List.map_nil, List.getElem?_toArray, List.getElem?_cons_zero, List.getElem?_cons_succ]
  repeat (first | (refine Plan.take ?_ (by rfl) ?_ ?_; rotate_left; (· rintro w9 ⟨u0, ⟨u1, u2, u3, u4, u5, u6⟩, v1, v2, v3, v4, v5, v6⟩; go_simp; (try rw [if_neg (by omega)]); all_goals (with_reducible rfl)); simp only [Act.put, List.setIfInBounds_toArray, List.set_cons_zero, List.set_cons_succ]) | (refine Plan.pass (by rfl) ?_; simp only [Act.put, List.setIfInBounds_toArray, List.set_cons_zero, List.set_cons_succ]))
  refine Plan.call (by rfl) 27 _ ?_ (v1.out _ b2') ?_
  · go_simp
  rintro r9 w3 ⟨rfl, h3⟩
  have b3 := b2'.trans (h3.mono b2'.size); have c3 := c2'.trans (h3.mono c2'.size)
  have sa3 := e_on h3 sa0 (e_lt sa0)
  have sb3 := e_on h3 sb0 (e_lt sb0)
  refine ⟨_, rfl, ⟨HM.out _ c3, entry_row sa3, entry_row sb3⟩, ?_⟩
  simp only [Act.put, List.setIfInBounds_toArray, List.set_cons_zero, List.set_cons_succ]
  repeat (first | (refine Plan.take ?_ (by rfl) ?_ ?_; rotate_left; (· rintro w9 ⟨u0, ⟨u1, u2, u3, u4, u5, u6⟩, v1, v2, v3, v4, v5, v6⟩; go_simp; (try rw [if_neg (by omega)]); all_goals (with_reducible rfl)); simp only [Act.put, List.setIfInBounds_toArray, List.set_cons_zero, List.set_cons_succ]) | (refine Plan.pass (by rfl) ?_; simp only [Act.put, List.setIfInBounds_toArray, List.set_cons_zero, List.set_cons_succ]))
  refine Plan.call (by rfl) 28 _ ?_ (v2.out _ b3) ?_
  · go_simp
  rintro r9 w4 ⟨rfl, h4⟩
  have b4 := b3.trans (h4.mono b3.size); have c4 := c3.trans (h4.mono c3.size)
  have sa4 := e_on h4 sa3 (e_lt sa3)
  have sb4 := e_on h4 sb3 (e_lt sb3)
  refine ⟨_, rfl, ⟨HM.out _ c4, entry_row sa4, entry_row sb4⟩, ?_⟩
  simp only [Act.put, List.setIfInBounds_toArray, List.set_cons_zero, List.set_cons_succ]
  repeat (first | (refine Plan.take ?_ (by rfl) ?_ ?_; rotate_left; (· rintro w9 ⟨u0, ⟨u1, u2, u3, u4, u5, u6⟩, v1, v2, v3, v4, v5, v6⟩; go_simp; (try rw [if_neg (by omega)]); all_goals (with_reducible rfl)); simp only [Act.put, List.setIfInBounds_toArray, List.set_cons_zero, List.set_cons_succ]) | (refine Plan.pass (by rfl) ?_; simp only [Act.put, List.setIfInBounds_toArray, List.set_cons_zero, List.set_cons_succ]))
  refine Plan.call (by rfl) 29 _ ?_ (T1.out _ b4) ?_
  · go_simp
  rintro r9 w5 ⟨rfl, h5⟩
  have b5 := b4.trans (h5.mono b4.size); have c5 := c4.trans (h5.mono c4.size)
  have sa5 := e_on h5 sa4 (e_lt sa4)
  have sb5 := e_on h5 sb4 (e_lt sb4)
  refine ⟨_, rfl, ⟨HM.out _ c5, entry_row sa5, entry_row sb5⟩, ?_⟩
  simp only [Act.put, List.setIfInBounds_toArray, List.set_cons_zero, List.set_cons_succ]
  repeat (first | (refine Plan.take ?_ (by rfl) ?_ ?_; rotate_left; (· rintro w9 ⟨u0, ⟨u1, u2, u3, u4, u5, u6⟩, v1, v2, v3, v4, v5, v6⟩; go_simp; (try rw [if_neg (by omega)]); all_goals (with_reducible rfl)); simp only [Act.put, List.setIfInBounds_toArray, List.set_cons_zero, List.set_cons_succ]) | (refine Plan.pass (by rfl) ?_; simp only [Act.put, List.setIfInBounds_toArray, List.set_cons_zero, List.set_cons_succ]))
  refine Plan.call (by rfl) 30 _ ?_ (T2.out _) ?_
  · go_simp
  rintro r9 w6 ⟨rfl, h6⟩
  have b6 := b5.trans (h6.mono b5.size); have c6 := c5.trans (h6.mono c5.size)
  have sa6 := e_on h6 sa5 (e_lt sa5)
  have sb6 := e_on h6 sb5 (e_lt sb5)
  refine ⟨_, rfl, ⟨HM.out _ c6, entry_row sa6, entry_row sb6⟩, ?_⟩
  simp only [Act.put, List.setIfInBounds_toArray, List.set_cons_zero, List.set_cons_succ]
  repeat (first | (refine Plan.take ?_ (by rfl) ?_ ?_; rotate_left; (· rintro w9 ⟨u0, ⟨u1, u2, u3, u4, u5, u6⟩, v1, v2, v3, v4, v5, v6⟩; go_simp; (try rw [if_neg (by omega)]); all_goals (with_reducible rfl)); simp only [Act.put, List.setIfInBounds_toArray, List.set_cons_zero, List.set_cons_succ]) | (refine Plan.pass (by rfl) ?_; simp only [Act.put, List.setIfInBounds_toArray, List.set_cons_zero, List.set_cons_succ]))
  refine Plan.call (by rfl) 26 _ ?_ (a1.out _ b6) ?_
  · go_simp
  rintro r9 w7 ⟨a7, n7, m7, rfl, l7, h7⟩
  have b7 := b6.trans (h7.mono b6.size); have c7 := c6.trans (h7.mono c6.size)
  have sa7 := e_on h7 sa6 (e_lt sa6)
  have sb7 := e_on h7 sb6 (e_lt sb6)
  refine ⟨_, rfl, ⟨HM.out _ c7, entry_row sa7, entry_row sb7⟩, ?_⟩
  simp only [Act.put, List.setIfInBounds_toArray, List.set_cons_zero, List.set_cons_succ]
  repeat (first | (refine Plan.take ?_ (by rfl) ?_ ?_; rotate_left; (· rintro w9 ⟨u0, ⟨u1, u2, u3, u4, u5, u6⟩, v1, v2, v3, v4, v5, v6⟩; go_simp; (try rw [if_neg (by omega)]); all_goals (with_reducible rfl)); simp only [Act.put, List.setIfInBounds_toArray, List.set_cons_zero, List.set_cons_succ]) | (refine Plan.pass (by rfl) ?_; simp only [Act.put, List.setIfInBounds_toArray, List.set_cons_zero, List.set_cons_succ]))
  refine Plan.call (by rfl) 31 _ ?_ (a2.out _ b7) ?_
  · go_simp
  rintro r9 w8 ⟨a8, n8, m8, rfl, l8, h8⟩
  have b8 := b7.trans (h8.mono b7.size); have c8 := c7.trans (h8.mono c7.size)
  have sa8 := e_on h8 sa7 (e_lt sa7)
  have sb8 := e_on h8 sb7 (e_lt sb7)
  have l7 := l7.on (Same.below h8)
  refine ⟨_, rfl, ⟨HM.out _ c8, entry_row sa8, entry_row sb8⟩, ?_⟩
  simp only [Act.put, List.setIfInBounds_toArray, List.set_cons_zero, List.set_cons_succ]
  repeat (first | (refine Plan.take ?_ (by rfl) ?_ ?_; rotate_left; (· rintro w9 ⟨u0, ⟨u1, u2, u3, u4, u5, u6⟩, v1, v2, v3, v4, v5, v6⟩; go_simp; (try rw [if_neg (by omega)]); all_goals (with_reducible rfl)); simp only [Act.put, List.setIfInBounds_toArray, List.set_cons_zero, List.set_cons_succ]) | (refine Plan.pass (by rfl) ?_; simp only [Act.put, List.setIfInBounds_toArray, List.set_cons_zero, List.set_cons_succ]))
  refine Plan.call (by rfl) 25 _ ?_ (refSame_any _ _ AL a7 a8 n7 m7 m8 n8 _ l7 l8) ?_
  · go_simp
  rintro r9 w9 ⟨rfl, h9⟩
  have b9 := b8.trans (h9.mono b8.size); have c9 := c8.trans (h9.mono c8.size)
  have sa9 := e_on h9 sa8 (e_lt sa8)
  have sb9 := e_on h9 sb8 (e_lt sb8)
  have l7' := l7
  refine ⟨_, rfl, ⟨HM.out _ c9, entry_row sa9, entry_row sb9⟩, ?_⟩
  simp only [Act.put, List.setIfInBounds_toArray, List.set_cons_zero, List.set_cons_succ]
  repeat (first | (refine Plan.take ?_ (by rfl) ?_ ?_; rotate_left; (· rintro w9 ⟨u0, ⟨u1, u2, u3, u4, u5, u6⟩, v1, v2, v3, v4, v5, v6⟩; go_simp; (try rw [if_neg (by omega)]); all_goals (with_reducible rfl)); simp only [Act.put, List.setIfInBounds_toArray, List.set_cons_zero, List.set_cons_succ]) | (refine Plan.pass (by rfl) ?_; simp only [Act.put, List.setIfInBounds_toArray, List.set_cons_zero, List.set_cons_succ]))
  refine Plan.ends ?_
  clear sa3 sb3 sa4 sb4 sa5 sb5 sa6 sb6 sa7 sb7 sa8 sb8 sa9 sb9 sa0 sb0 s1 s2 u2' l7 l8 l7'
  have k0 := HM.out _ c9
  obtain ⟨d0, d1, d2, d3, d4, d5⟩ := HE.out _ c9
  have b10 := b9
  have c10 := c9
  go_wp2_with (first
    | (go_at_call 24; ((with_reducible refine (HI1.out _ b10).mono ?_); rintro r9 w11 ⟨a11, n11, m11, rfl, l11, h11⟩; have b11 := b10.trans (h11.mono b10.size); have c11 := c10.trans (h11.mono c10.size); have hz10 := c10.size; have hz11 := h11.size; have hzw := hA.size; have b11 := b11.alloc b11.size (mapRow a11 n11 m11); have c11 := c11.alloc c11.size (mapRow a11 n11 m11); have b11 := b11.alloc b11.size (entRow yb yk yv ym yz yo); have c11 := c11.alloc c11.size (entRow yb yk yv ym yz yo); have l11 := (l11.on (Same.alloc w11 (mapRow a11 n11 m11))).on (Same.alloc _ (entRow yb yk yv ym yz yo)); have g11 := e_al (heap_alloc_new w11 (mapRow a11 n11 m11)) (entRow yb yk yv ym yz yo); have i11 := heap_second w11 (mapRow a11 n11 m11) (entRow yb yk yv ym yz yo); clear k0 d0 d1 d2 d3 d4 d5; have k0 := HM.out _ c11; obtain ⟨d0, d1, d2, d3, d4, d5⟩ := HE.out _ c11; ))
    | (go_at_call 20; ((with_reducible refine (HI2.out _ b11).mono ?_); rintro r9 w12 ⟨a12, n12, m12, rfl, l12, h12⟩; have b12 := b11.trans (h12.mono b11.size); have c12 := c11.trans (h12.mono c11.size); have hz12 := h12.size; simp only [World.size_alloc] at hz12; have b12 := b12.alloc b12.size (mapRow a12 n12 m12); have c12 := c12.alloc c12.size (mapRow a12 n12 m12); have b12 := b12.alloc b12.size (entRow yb yk yv ym yz yo); have c12 := c12.alloc c12.size (entRow yb yk yv ym yz yo); have l11 := ((l11.on (Same.below h12)).on (Same.alloc w12 (mapRow a12 n12 m12))).on (Same.alloc _ (entRow yb yk yv ym yz yo)); have l12 := (l12.on (Same.alloc w12 (mapRow a12 n12 m12))).on (Same.alloc _ (entRow yb yk yv ym yz yo)); have g12 := e_al (e_al (e_on h12 g11 (e_lt g11)) (mapRow a12 n12 m12)) (entRow yb yk yv ym yz yo); have i12 := e_al (e_al (e_on h12 i11 (e_lt i11)) (mapRow a12 n12 m12)) (entRow yb yk yv ym yz yo); have g13 := e_al (heap_alloc_new w12 (mapRow a12 n12 m12)) (entRow yb yk yv ym yz yo); have i13 := heap_second w12 (mapRow a12 n12 m12) (entRow yb yk yv ym yz yo); have o1 := map_row g12; have o2 := map_row g13; clear k0 d0 d1 d2 d3 d4 d5))
    | (go_at_call 15; ((with_reducible refine (refSameM_any _ _ _ a11 a12 n11 m11 n12 m12 _ l11 l12).mono ?_); rintro r9 w13 ⟨rfl, h13⟩; have b13 := b12.trans (h13.mono b12.size); have c13 := c12.trans (h13.mono c12.size); have hz13 := h13.size; simp only [World.size_alloc] at hz13; have g14 := e_on h13 g12 (e_lt g12); have g15 := e_on h13 g13 (e_lt g13); have i14 := e_on h13 i12 (e_lt i12); have i15 := e_on h13 i13 (e_lt i13); clear o1 o2; obtain ⟨z0, z1, z2, z3, z4, z5⟩ := entry_row i14; obtain ⟨y0, y1, y2, y3, y4, y5⟩ := entry_row i15; have k0 := HM.out _ c13; obtain ⟨d0, d1, d2, d3, d4, d5⟩ := HE.out _ c13; obtain ⟨p0, p1⟩ := HP.out _ c13; obtain ⟨q0, q1⟩ := HQ.out _ c13; clear l11 l12 g11 g12 g13 i11 i12 i13))
    | (go_at_call 23; ((with_reducible refine (r1.out _ b13).mono ?_); rintro r9 w14 ⟨a14, n14, m14, rfl, l14, h14⟩; have b14 := b13.trans (h14.mono b13.size); have c14 := c13.trans (h14.mono c13.size); have hz14 := h14.size; have g16 := e_on h14 g14 (e_lt g14); have g17 := e_on h14 g15 (e_lt g15); clear z0 z1 z2 z3 z4 z5 y0 y1 y2 y3 y4 y5 k0 d0 d1 d2 d3 d4 d5 p0 p1 q0 q1 g14 g15 i14 i15))
    | ((with_reducible refine Plan.store_lit 24 (.tmp 19) _ w11.heap.size ?_ g16 ?_ ?_ ?_ ?_ ?_ ?_); rotate_left; (· rfl); (· rfl); (· exact map_info); (· rfl); (· simp [Value.oneCell']); simp only [Act.put]; have b15 := below_setRow b14 (show w.heap.size ≤ w11.heap.size by omega) #[.slice a14 n14 m14]; have c15 := below_setRow c14 (show w0.heap.size ≤ w11.heap.size by omega) #[.slice a14 n14 m14]; have g18 := setRow_heap w14 w11.heap.size _ #[.slice a14 n14 m14] _ _ g16; have g19 := (setRow_other w14 w11.heap.size w12.heap.size #[.slice a14 n14 m14] (by omega)).trans g17; have l14 := l14.on (Same.row (r := w11.heap.size) (fun h9 => by rcases h9 with h9 | h9; (· omega); (· omega)) #[.slice a14 n14 m14]); have z15 : (w14.setRow w11.heap.size #[.slice a14 n14 m14]).heap.size = w14.heap.size := (by simp [World.setRow]); generalize hW15 : w14.setRow w11.heap.size #[.slice a14 n14 m14] = w15 at *; clear hW15; have k0 := HM.out _ c15; obtain ⟨d0, d1, d2, d3, d4, d5⟩ := HE.out _ c15; obtain ⟨p0, p1⟩ := HP.out _ c15; obtain ⟨q0, q1⟩ := HQ.out _ c15; clear g16 g17)
    | (go_at_call 32; ((with_reducible refine (r2.out _ b15).mono ?_); rintro r9 w16 ⟨a16, n16, m16, rfl, l16, h16⟩; have b16 := b15.trans (h16.mono b15.size); have c16 := c15.trans (h16.mono c15.size); have hz16 := h16.size; have l14 := l14.on (Same.below h16); have g20 := e_on h16 g18 (e_lt g18); have g21 := e_on h16 g19 (e_lt g19); clear k0 d0 d1 d2 d3 d4 d5 p0 p1 q0 q1 g18 g19))
    | ((with_reducible refine Plan.store_lit 24 (.tmp 21) _ w12.heap.size ?_ g21 ?_ ?_ ?_ ?_ ?_ ?_); rotate_left; (· rfl); (· rfl); (· exact map_info); (· rfl); (· simp [Value.oneCell']); simp only [Act.put]; have b17 := below_setRow b16 (show w.heap.size ≤ w12.heap.size by omega) #[.slice a16 n16 m16]; have c17 := below_setRow c16 (show w0.heap.size ≤ w12.heap.size by omega) #[.slice a16 n16 m16]; have g23 := setRow_heap w16 w12.heap.size _ #[.slice a16 n16 m16] _ _ g21; have g22 := (setRow_other w16 w12.heap.size w11.heap.size #[.slice a16 n16 m16] (by omega)).trans g20; have l14 := l14.on (Same.row (r := w12.heap.size) (fun h9 => by rcases h9 with h9 | h9; (· omega); (· omega)) #[.slice a16 n16 m16]); have l16 := l16.on (Same.row (r := w12.heap.size) (fun h9 => by rcases h9 with h9 | h9; (· omega); (· omega)) #[.slice a16 n16 m16]); have z17 : (w16.setRow w12.heap.size #[.slice a16 n16 m16]).heap.size = w16.heap.size := (by simp [World.setRow]); generalize hW17 : w16.setRow w12.heap.size #[.slice a16 n16 m16] = w17 at *; clear hW17; have o1 := map_row g22; have o2 := map_row g23; clear g20 g21)
    | (go_at_call 15; ((with_reducible refine (refSameM_any _ _ _ a14 a16 n14 m14 n16 m16 _ l14 l16).mono ?_); rintro r9 w18 ⟨rfl, h18⟩; have b18 := b17.trans (h18.mono b17.size); have c18 := c17.trans (h18.mono c17.size); have hz18 := h18.size; have g24 := e_on h18 g22 (e_lt g22); have g25 := e_on h18 g23 (e_lt g23); have k0 := HM.out _ c18; clear o1 o2 l14 l16 g22 g23))
    | (go_at_call 21; ((with_reducible refine (D1.out _ b18).mono ?_); rintro r9 w19 ⟨a19, n19, m19, x19, s19, t19, rfl, l19, j19, h19⟩; have b19 := b18.trans (h19.mono b18.size); have c19 := c18.trans (h19.mono c18.size); have hz19 := h19.size; have g26 := e_on h19 g24 (e_lt g24); have g27 := e_on h19 g25 (e_lt g25); clear k0 g24 g25))
    | ((with_reducible refine Plan.store_lit 24 (.tmp 19) _ w11.heap.size ?_ g26 ?_ ?_ ?_ ?_ ?_ ?_); rotate_left; (· rfl); (· rfl); (· exact map_info); (· rfl); (· simp [Value.oneCell']); simp only [Act.put]; have b20 := below_setRow b19 (show w.heap.size ≤ w11.heap.size by omega) #[.slice a19 n19 m19]; have c20 := below_setRow c19 (show w0.heap.size ≤ w11.heap.size by omega) #[.slice a19 n19 m19]; have g28 := setRow_heap w19 w11.heap.size _ #[.slice a19 n19 m19] _ _ g26; have g29 := (setRow_other w19 w11.heap.size w12.heap.size #[.slice a19 n19 m19] (by omega)).trans g27; have l19 := l19.on (Same.row (r := w11.heap.size) (fun h9 => by rcases h9 with h9 | h9; (· omega); (· omega)) #[.slice a19 n19 m19]); have j19 := j19.on (Same.row (r := w11.heap.size) (fun h9 => by rcases h9 with h9 | h9; (· omega); (· omega)) #[.slice a19 n19 m19]); have z20 : (w19.setRow w11.heap.size #[.slice a19 n19 m19]).heap.size = w19.heap.size := (by simp [World.setRow]); generalize hW20 : w19.setRow w11.heap.size #[.slice a19 n19 m19] = w20 at *; clear hW20; have k0 := HM.out _ c20; clear g26 g27)
    | (go_at_call 33; ((with_reducible refine (D2.out _ b20).mono ?_); rintro r9 w21 ⟨a21, n21, m21, x21, s21, t21, rfl, l21, j21, h21⟩; have b21 := b20.trans (h21.mono b20.size); have c21 := c20.trans (h21.mono c20.size); have hz21 := h21.size; have l19 := l19.on (Same.below h21); have j19 := j19.on (Same.below h21); have g30 := e_on h21 g28 (e_lt g28); have g31 := e_on h21 g29 (e_lt g29); clear k0 g28 g29))
    | ((with_reducible refine Plan.store_lit 24 (.tmp 21) _ w12.heap.size ?_ g31 ?_ ?_ ?_ ?_ ?_ ?_); rotate_left; (· rfl); (· rfl); (· exact map_info); (· rfl); (· simp [Value.oneCell']); simp only [Act.put]; have b22 := below_setRow b21 (show w.heap.size ≤ w12.heap.size by omega) #[.slice a21 n21 m21]; have c22 := below_setRow c21 (show w0.heap.size ≤ w12.heap.size by omega) #[.slice a21 n21 m21]; have g33 := setRow_heap w21 w12.heap.size _ #[.slice a21 n21 m21] _ _ g31; have g32 := (setRow_other w21 w12.heap.size w11.heap.size #[.slice a21 n21 m21] (by omega)).trans g30; have l19 := l19.on (Same.row (r := w12.heap.size) (fun h9 => by rcases h9 with h9 | h9; (· omega); (· omega)) #[.slice a21 n21 m21]); have j19 := j19.on (Same.row (r := w12.heap.size) (fun h9 => by rcases h9 with h9 | h9; (· omega); (· omega)) #[.slice a21 n21 m21]); have l21 := l21.on (Same.row (r := w12.heap.size) (fun h9 => by rcases h9 with h9 | h9; (· omega); (· omega)) #[.slice a21 n21 m21]); have j21 := j21.on (Same.row (r := w12.heap.size) (fun h9 => by rcases h9 with h9 | h9; (· omega); (· omega)) #[.slice a21 n21 m21]); have z22 : (w21.setRow w12.heap.size #[.slice a21 n21 m21]).heap.size = w21.heap.size := (by simp [World.setRow]); generalize hW22 : w21.setRow w12.heap.size #[.slice a21 n21 m21] = w22 at *; clear hW22; have o1 := map_row g32; have o2 := map_row g33; clear g30 g31)
    | (go_at_call 15; ((with_reducible refine (refSameM_any _ _ _ a19 a21 n19 m19 n21 m21 _ l19 l21).mono ?_); rintro r9 w23 ⟨rfl, h23⟩; have b23 := b22.trans (h23.mono b22.size); have c23 := c22.trans (h23.mono c22.size); have j19 := j19.on (Same.below h23); have j21 := j21.on (Same.below h23)))
    | (go_at_call 25; ((with_reducible refine (refSame_any _ _ GL x19 x21 s19 t19 t21 s21 _ j19 j21).mono ?_); rintro r9 w24 ⟨rfl, h24⟩; have b24 := b23.trans (h24.mono b23.size); have c24 := c23.trans (h24.mono c23.size); skip)))
  go_ret
  exact ⟨rfl, b24⟩
end Go.Proofs.Ytljobnfilnbefaa.Ents
