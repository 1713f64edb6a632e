/- Texts that belong together, part 3. -/
import Derived.Test.YtljobnfilnbefaaPack2
import Derived.OwnWalk
import Derived.Laws.AppendOwn
import Derived.Laws.AppendOwnNone
import Derived.WalkMore

/- The walk of the document's Valid. -/
namespace Go.Proofs.Ytljobnfilnbefaa.Ents
open Go.RowKit Plan EntMath
theorem EntAt.kept {w w' : World} {x : Addr} {i : Nat} {e : Ent} (h : EntAt w x i e) (hb : Below w.heap.size w w') (hx : x.block < w.heap.size) : EntAt w' x i e := by
  have hc : ∀ y : Addr, y.block = x.block → w'.cell? y = w.cell? y := fun y hy => hb.cell (by rw [hy]; exact hx)
  obtain ⟨h0, h1, h2, h3, h4, h5⟩ := h
  have hB : (x.add (i * 6)).block = x.block := ent_add_block x _
  exact ⟨(hc _ hB).trans h0, (hc ⟨(x.add (i * 6)).block, (x.add (i * 6)).off + 1, none⟩ hB).trans h1, (hc ⟨(x.add (i * 6)).block, (x.add (i * 6)).off + 2, none⟩ hB).trans h2, (hc ⟨(x.add (i * 6)).block, (x.add (i * 6)).off + 3, none⟩ hB).trans h3, (hc ⟨(x.add (i * 6)).block, (x.add (i * 6)).off + 4, none⟩ hB).trans h4, (hc ⟨(x.add (i * 6)).block, (x.add (i * 6)).off + 5, none⟩ hB).trans h5⟩
theorem EntAt.lt {w : World} {x : Addr} {i : Nat} {e : Ent} (h : EntAt w x i e) : x.block < w.heap.size := by
  have := World.block_lt_of_cell? w _ h.1
  rwa [ent_add_block] at this
theorem valid_no {L : List Ent} {i : Nat} {e : Ent} (he : L[i]? = some e) (h : okAt L i = false) : validB L = false := by
  cases hv : validB L
  · rfl
  · rw [valid_at hv he] at h; cases h
theorem valid_all {L : List Ent} (h : ∀ i, i < L.length → okAt L i = true) : validB L = true := List.all_eq_true.2 fun i hi => h i (List.mem_range.1 hi)
set_option maxHeartbeats 4000000 in
set_option maxRecDepth 20000 in
theorem refValid_any (F : Nat → Prop) (L : List Ent) (a : Option Addr) (len cap : Nat) (w : World) (hl : EList w F a len cap L) :
    Calls Try.prog 50 #[.slice a len cap] w fun r w' => r = .returned (.bool (validB L)) ∧ Below w.heap.size w w' := by
  have hlen := hl.length
  have hat := fun W (h : Below w.heap.size w W) i (hi : i < len) => (hl.on (Same.below h)).ent i hi
  have hmx : len ≤ maxLen := Nat.le_trans hl.cap.1 hl.cap.2
  unfold maxLen at hmx
  have HAT := Lib.hid hat
  have hall := @valid_all L
  have hno := fun i e he h => @valid_no L i e he h
  generalize validB L = R at *
  have HALL := Lib.hid hall
  have HNO := Lib.hid hno
  clear hat hl hall hno
  go_enter Try.func50, Try.ntmps50
  go_wp2_with fail
  go_loopw [3] (fun c wr => ∃ j : Nat, c = .int .i64 (j : Int) ∧ j ≤ len ∧ RowKit.Hid (∀ i, i < j → okAt L i = true) ∧ Below w.heap.size w wr) (fun c _ => len - (intOf c).toNat)
  case atStart => exact ⟨0, rfl, by omega, Lib.hid (fun i h => absurd h (Nat.not_lt_zero _)), Below.refl _ _⟩
  case round =>
    obtain ⟨j, rfl, hj, hbf, hb⟩ := hrel
    by_cases hlt : j < len
    · obtain ⟨x, e, rfl, he, hat⟩ := HAT.out wr hb j hlt
      have hjI : (j : Int) < (len : Int) := by omega
      have hokI := okAt_iff he
      have HE := Lib.hid (fun W => refEntry_any e W)
      have hatk := Lib.hid (fun v1 (h : Below wr.drew.heap.size wr.drew v1) => EntAt.kept (w := wr.drew) hat h hat.lt)
      have HN := Lib.hid (fun h => HNO.out j e he h)
      have hnx := Lib.hid (fun (h : okAt L j = true) i (hi : i < j + 1) => (show okAt L i = true from by
        rcases Nat.lt_or_ge i j with h1 | h1
        · exact hbf.out i h1
        · obtain rfl : i = j := by omega
          exact h))
      cases hok : okE e
      · have hA : okAt L j = false := by
          cases hA : okAt L j
          · rfl
          · rw [(hokI.1 hA).1] at hok; cases hok
        have hR := Lib.hid (HN.out hA)
        rw [hok] at HE
        clear hokI hok hA he
        obtain ⟨b, k, v, m, z, o⟩ := e
        try simp only at hat hatk HE
        go_wp2_with fail
        refine Plan.start (fun W => EntAt W x j ⟨b, k, v, m, z, o⟩) [(0, true), (1, true), (2, true), (3, true), (4, false), (5, true), (6, true), (7, true), (8, true), (9, true), (10, true), (11, true), (12, true), (13, true), (14, true), (15, true), (16, true), (17, true), (18, true), (19, true), (20, true), (21, true), (22, true), (23, true)] (by kernel_rfl) (by kernel_rfl) (by kernel_rfl) (by kernel_rfl) hat ?_
        simp only [List.map_cons, List.map_nil, List.getElem?_toArray, List.getElem?_cons_zero, List.getElem?_cons_succ]
        repeat (first | (refine Plan.take ?_ (by rfl) ?_ ?_; rotate_left; (· rintro w9 ⟨u0, u1, u2, u3, u4, u5⟩; go_simp; (try rw [if_neg (by omega)]); all_goals (with_reducible rfl)); simp only [Act.put, List.setIfInBounds_toArray, List.set_cons_zero, List.set_cons_succ]) | (refine Plan.pass (by rfl) ?_; simp only [Act.put, List.setIfInBounds_toArray, List.set_cons_zero, List.set_cons_succ]))
        refine Plan.call (by rfl) 55 _ ?_ (HE.out _) ?_
        · go_simp
        rintro e9 v1 ⟨rfl, hb1⟩
        refine ⟨_, rfl, hatk.out v1 hb1, ?_⟩
        simp only [Act.put, List.setIfInBounds_toArray, List.set_cons_zero, List.set_cons_succ]
        repeat (first | (refine Plan.take ?_ (by rfl) ?_ ?_; rotate_left; (· rintro w9 ⟨u0, u1, u2, u3, u4, u5⟩; go_simp; (try rw [if_neg (by omega)]); all_goals (with_reducible rfl)); simp only [Act.put, List.setIfInBounds_toArray, List.set_cons_zero, List.set_cons_succ]) | (refine Plan.pass (by rfl) ?_; simp only [Act.put, List.setIfInBounds_toArray, List.set_cons_zero, List.set_cons_succ]))
        refine Plan.ends ?_
        have b9 := hb.drew.trans (hb1.mono hb.size)
        clear hat
        go_wp2_with fail
        go_ret
        exact ⟨by rw [hR.out]; rfl, b9⟩
      · rw [hok] at HE
        by_cases h0 : j = 0
        · have hA : okAt L j = true := hokI.2 ⟨hok, fun d h _ => absurd h (by omega)⟩
          have hN := Lib.hid (hnx.out hA)
          have d1 : decide (0 < (j : Int)) = false := by simp; omega
          have d2 : decide (0 < j) = false := by simp; omega
          clear hokI hok hA he
          obtain ⟨b, k, v, m, z, o⟩ := e
          try simp only at hat hatk HE
          clear h0
          go_wp2_with fail
          refine Plan.start (fun W => EntAt W x j ⟨b, k, v, m, z, o⟩) [(0, true), (1, true), (2, true), (3, true), (4, false), (5, true), (6, true), (7, true), (8, true), (9, true), (10, true), (11, true), (12, true), (13, true), (14, true), (15, true), (16, true), (17, true), (18, true), (19, true), (20, true), (21, true), (22, true), (23, true)] (by kernel_rfl) (by kernel_rfl) (by kernel_rfl) (by kernel_rfl) hat ?_
          simp only [List.map_cons, List.map_nil, List.getElem?_toArray, List.getElem?_cons_zero, List.getElem?_cons_succ]
          repeat (first | (refine Plan.take ?_ (by rfl) ?_ ?_; rotate_left; (· rintro w9 ⟨u0, u1, u2, u3, u4, u5⟩; go_simp; (try rw [if_neg (by omega)]); all_goals (with_reducible rfl)); simp only [Act.put, List.setIfInBounds_toArray, List.set_cons_zero, List.set_cons_succ]) | (refine Plan.pass (by rfl) ?_; simp only [Act.put, List.setIfInBounds_toArray, List.set_cons_zero, List.set_cons_succ]))
          refine Plan.call (by rfl) 55 _ ?_ (HE.out _) ?_
          · go_simp
          rintro e9 v1 ⟨rfl, hb1⟩
          refine ⟨_, rfl, hatk.out v1 hb1, ?_⟩
          simp only [Act.put, List.setIfInBounds_toArray, List.set_cons_zero, List.set_cons_succ]
          repeat (first | (refine Plan.take ?_ (by rfl) ?_ ?_; rotate_left; (· rintro w9 ⟨u0, u1, u2, u3, u4, u5⟩; go_simp; (try rw [if_neg (by omega)]); all_goals (with_reducible rfl)); simp only [Act.put, List.setIfInBounds_toArray, List.set_cons_zero, List.set_cons_succ]) | (refine Plan.pass (by rfl) ?_; simp only [Act.put, List.setIfInBounds_toArray, List.set_cons_zero, List.set_cons_succ]))
          refine Plan.ends ?_
          have b9 := hb.drew.trans (hb1.mono hb.size)
          clear hat
          go_wp2_with fail
          go_roundw
          case rel => exact ⟨j + 1, by go_num, by omega, hN, b9⟩
          case measure => simp [intOf]; omega
        · obtain ⟨p, hp⟩ : ∃ p, j = p + 1 := ⟨j - 1, by omega⟩
          obtain ⟨x', f, hx', hf, hatf⟩ := HAT.out wr hb p (by omega)
          obtain rfl := Option.some.inj hx'
          have hpc := hatf.1
          have hpl := hatf.lt
          have hpI : (p : Int) < (len : Int) := by omega
          have hokF : okAt L j = true ↔ f.block < e.block := by
            rw [hokI]
            have hf' : L[j - 1]? = some f := by rw [hp]; exact hf
            exact ⟨fun h => h.2 f (by omega) hf', fun h => ⟨hok, fun d _ hd => by rw [hf'] at hd; obtain rfl := Option.some.inj hd; exact h⟩⟩
          have hpck := Lib.hid (fun v1 (h : Below wr.drew.heap.size wr.drew v1) => (h.cell (by rw [ent_add_block]; exact hpl)).trans hpc)
          have hpw : IntKind.i64.wrap ((j : Int) - 1) = (p : Int) := by rw [IntWalk.i64_in _ (by omega)]; omega
          have d1 : decide (0 < (j : Int)) = true := by simp; omega
          have d2 : decide (0 < j) = true := by simp; omega
          have hj0 : (0 : Int) < (j : Int) := by omega
          clear hatf hok hokI h0 hf hp hx'
          generalize f.block = D at *
          obtain ⟨b, k, v, m, z, o⟩ := e
          try simp only at hat hatk HE hokF
          by_cases hBD : b ≤ D
          · have hA : okAt L j = false := by
              cases hA : okAt L j
              · rfl
              · have := hokF.1 hA; omega
            have hR := Lib.hid (HN.out hA)
            have d3 : decide (b ≤ D) = true := by simpa using hBD
            clear hokF hA he
            go_wp2_with fail
            refine Plan.start (fun W => EntAt W x j ⟨b, k, v, m, z, o⟩ ∧ W.cell? (x.add (p * 6)) = some (.int .i64 D)) [(0, true), (1, true), (2, true), (3, true), (4, false), (5, true), (6, true), (7, true), (8, true), (9, true), (10, true), (11, true), (12, true), (13, true), (14, true), (15, true), (16, true), (17, true), (18, true), (19, true), (20, true), (21, true), (22, true), (23, true)] (by kernel_rfl) (by kernel_rfl) (by kernel_rfl) (by kernel_rfl) ⟨hat, hpc⟩ ?_
            simp only [List.map_cons, List.map_nil, List.getElem?_toArray, List.getElem?_cons_zero, List.getElem?_cons_succ]
            repeat (first | (refine Plan.take ?_ (by rfl) ?_ ?_; rotate_left; (· rintro w9 ⟨⟨u0, u1, u2, u3, u4, u5⟩, u6⟩; go_simp; (try rw [if_neg (by omega)]); all_goals (with_reducible rfl)); simp only [Act.put, List.setIfInBounds_toArray, List.set_cons_zero, List.set_cons_succ]) | (refine Plan.pass (by rfl) ?_; simp only [Act.put, List.setIfInBounds_toArray, List.set_cons_zero, List.set_cons_succ]))
            refine Plan.call (by rfl) 55 _ ?_ (HE.out _) ?_
            · go_simp
            rintro e9 v1 ⟨rfl, hb1⟩
            refine ⟨_, rfl, ⟨hatk.out v1 hb1, hpck.out v1 hb1⟩, ?_⟩
            simp only [Act.put, List.setIfInBounds_toArray, List.set_cons_zero, List.set_cons_succ]
            repeat (first | (refine Plan.take ?_ (by rfl) ?_ ?_; rotate_left; (· rintro w9 ⟨⟨u0, u1, u2, u3, u4, u5⟩, u6⟩; go_simp; (try rw [if_neg (by omega)]); all_goals (with_reducible rfl)); simp only [Act.put, List.setIfInBounds_toArray, List.set_cons_zero, List.set_cons_succ]) | (refine Plan.pass (by rfl) ?_; simp only [Act.put, List.setIfInBounds_toArray, List.set_cons_zero, List.set_cons_succ]))
            refine Plan.ends ?_
            have b9 := hb.drew.trans (hb1.mono hb.size)
            clear hat hpc
            go_wp2_with fail
            go_ret
            exact ⟨by rw [hR.out]; rfl, b9⟩
          · have hN := Lib.hid (hnx.out (hokF.2 (by omega)))
            have d3 : decide (b ≤ D) = false := by simpa using hBD
            clear hokF he
            go_wp2_with fail
            refine Plan.start (fun W => EntAt W x j ⟨b, k, v, m, z, o⟩ ∧ W.cell? (x.add (p * 6)) = some (.int .i64 D)) [(0, true), (1, true), (2, true), (3, true), (4, false), (5, true), (6, true), (7, true), (8, true), (9, true), (10, true), (11, true), (12, true), (13, true), (14, true), (15, true), (16, true), (17, true), (18, true), (19, true), (20, true), (21, true), (22, true), (23, true)] (by kernel_rfl) (by kernel_rfl) (by kernel_rfl) (by kernel_rfl) ⟨hat, hpc⟩ ?_
            simp only [List.map_cons, List.map_nil, List.getElem?_toArray, List.getElem?_cons_zero, List.getElem?_cons_succ]
            repeat (first | (refine Plan.take ?_ (by rfl) ?_ ?_; rotate_left; (· rintro w9 ⟨⟨u0, u1, u2, u3, u4, u5⟩, u6⟩; go_simp; (try rw [if_neg (by omega)]); all_goals (with_reducible rfl)); simp only [Act.put, List.setIfInBounds_toArray, List.set_cons_zero, List.set_cons_succ]) | (refine Plan.pass (by rfl) ?_; simp only [Act.put, List.setIfInBounds_toArray, List.set_cons_zero, List.set_cons_succ]))
            refine Plan.call (by rfl) 55 _ ?_ (HE.out _) ?_
            · go_simp
            rintro e9 v1 ⟨rfl, hb1⟩
            refine ⟨_, rfl, ⟨hatk.out v1 hb1, hpck.out v1 hb1⟩, ?_⟩
            simp only [Act.put, List.setIfInBounds_toArray, List.set_cons_zero, List.set_cons_succ]
            repeat (first | (refine Plan.take ?_ (by rfl) ?_ ?_; rotate_left; (· rintro w9 ⟨⟨u0, u1, u2, u3, u4, u5⟩, u6⟩; go_simp; (try rw [if_neg (by omega)]); all_goals (with_reducible rfl)); simp only [Act.put, List.setIfInBounds_toArray, List.set_cons_zero, List.set_cons_succ]) | (refine Plan.pass (by rfl) ?_; simp only [Act.put, List.setIfInBounds_toArray, List.set_cons_zero, List.set_cons_succ]))
            refine Plan.ends ?_
            have b9 := hb.drew.trans (hb1.mono hb.size)
            clear hat hpc
            go_wp2_with fail
            go_roundw
            case rel => exact ⟨j + 1, by go_num, by omega, hN, b9⟩
            case measure => simp [intOf]; omega
    · obtain rfl : j = len := by omega
      have hR := Lib.hid (HALL.out (fun i hi => hbf.out i (by omega)))
      go_wp2_with fail
      go_ret
      exact ⟨by rw [hR.out]; rfl, hb⟩
end Go.Proofs.Ytljobnfilnbefaa.Ents

/- The walk of the document's Find. -/
namespace Go.Proofs.Ytljobnfilnbefaa.Ents
open Go.RowKit Plan EntMath
/-- what Find gives -/
def findV (L : List Ent) (b : Int) : Value := .tuple #[entV ((findE L b).getD zeroE), .bool (findE L b).isSome]
theorem findV_none {L : List Ent} {b : Int} (h : findE L b = none) : findV L b = .tuple #[.agg #[.int .i64 0, .int .i64 0, .int .i64 0, .int .i64 0, .int .i64 0, .int .i64 0], .bool false] := by unfold findV; rw [h]; rfl
theorem findV_some {L : List Ent} {b : Int} {e : Ent} (h : findE L b = some e) : findV L b = .tuple #[entV e, .bool true] := by unfold findV; rw [h]; rfl
theorem find_invalid {L : List Ent} {b : Int} (h : validB L = false) : findE L b = none := by unfold findE; rw [if_neg (by rw [h]; decide)]
theorem find_at {L : List Ent} {b : Int} (h : validB L = true) {e : Ent} (he : L[place L b]? = some e) : findE L b = if e.block = b then some e else none := by
  unfold findE
  rw [if_pos h, look_place (valid_iff.1 h).2, he]
theorem find_past {L : List Ent} {b : Int} (h : validB L = true) (he : L.length ≤ place L b) : findE L b = none := by
  unfold findE
  rw [if_pos h, look_place (valid_iff.1 h).2, List.getElem?_eq_none he]
set_option maxHeartbeats 2000000 in
set_option maxRecDepth 20000 in
theorem refFind_any (F : Nat → Prop) (L : List Ent) (b : Int) (a : Option Addr) (len cap : Nat) (w : World) (hl : EList w F a len cap L) :
    Calls Try.prog 35 #[.slice a len cap, .int .i64 b] w fun r w' => r = .returned (findV L b) ∧ Below w.heap.size w w' := by
  have hlen := hl.length
  have hA := (Below.refl w.heap.size w).alloc (Nat.le_refl _) (entRow 0 0 0 0 0 0)
  have hr0 := heap_alloc_new w (entRow 0 0 0 0 0 0)
  have hv := fun W (h : Same F w W) => refValid_any F L a len cap W (hl.on h)
  have hp := fun W (h : Same F w W) => refPlace_any F L b a len cap W (hl.on h)
  have hat := fun W (h : Same F w W) i (hi : i < len) => (hl.on h).ent i hi
  have hmx : len ≤ maxLen := Nat.le_trans hl.cap.1 hl.cap.2
  unfold maxLen at hmx
  have hple := place_le L b
  have h1 := fun h => findV_none (b := b) (find_invalid (L := L) h)
  have h2 := fun h h0 => findV_none (b := b) (find_past (L := L) h h0)
  have h3 := fun h e he => find_at (L := L) (b := b) h (e := e) he
  have h4 := fun h => @findV_none L b h
  have h5 := fun e h => @findV_some L b e h
  rw [hlen] at hple h2
  generalize findV L b = V at *
  generalize findE L b = G at *
  generalize place L b = k at *
  generalize validB L = R at *
  have HV := Lib.hid hv
  have HP := Lib.hid hp
  have HAT := Lib.hid hat
  have H3 := Lib.hid h3
  have H4 := Lib.hid h4
  have H5 := Lib.hid h5
  clear hl hv hp hat h3 h4 h5
  cases R
  · have H1 := Lib.hid (h1 rfl)
    clear h1 h2 hple
    go_enter Try.func35, Try.ntmps35
    have SW0 : Same F w (w.alloc (entRow 0 0 0 0 0 0)) := Same.alloc w _
    generalize hw0 : w.alloc (entRow 0 0 0 0 0 0) = w0 at *
    go_wp2_with (first
      | (go_at_call 50; ((with_reducible refine (HV.out _ SW0).mono ?_); rintro e w1 ⟨rfl, hb1⟩; have hr1 := e_on hb1 hr0 (e_lt hr0); have b1 := hA.trans (hb1.mono hA.size)))
      | ((with_reducible refine Plan.store_lit 28 (.tmp 4) _ (w.heap.size) ?_ hr1 ?_ ?_ ?_ ?_ ?_ ?_); rotate_left; (· rfl); (· rfl); (· exact entry_info); (· rfl); (· simp [Value.oneCell']); simp only [Act.put]))
    exact bodyPost_ret (Plan.results_cell_tmp (p := 4) (q := 5) rfl _ _ _ _ _ _ _ rfl (setRow_heap _ _ _ _ _ _ hr1) Try.underlying28 rfl entry_info) rfl ⟨e_v H1.out.symm, below_setRow b1 (Nat.le_refl _) _⟩
  · clear h1
    by_cases hk : k < len
    · obtain ⟨x, e, rfl, he, -⟩ := HAT.out w (Same.refl F w) k hk
      have hge := H3.out rfl e he
      have hkI : (k : Int) < (len : Int) := by omega
      have hkN : ((k : Int) == (len : Int)) = false := by simp; omega
      have hkM : (k == len) = false := by simp; omega
      by_cases hb : e.block = b
      · rw [if_pos hb] at hge
        have H9 := Lib.hid (H5.out e hge)
        have hc := fun W (h : Same F w W) => (show EntAt W x k e from by
          obtain ⟨x', e', hx', he', h'⟩ := HAT.out W h k hk
          obtain rfl := Option.some.inj hx'
          rw [he] at he'
          obtain rfl := Option.some.inj he'
          exact h')
        obtain ⟨eb, ek, ev, em, ez, eo⟩ := e
        try simp only at hb H9 hc
        subst hb
        have HC := Lib.hid hc
        clear h2 hple hge he hc
        go_enter Try.func35, Try.ntmps35
        have SW0 : Same F w (w.alloc (entRow 0 0 0 0 0 0)) := Same.alloc w _
        generalize hw0 : w.alloc (entRow 0 0 0 0 0 0) = w0 at *
        go_wp2_with (first
          | (go_at_call 50; ((with_reducible refine (HV.out _ SW0).mono ?_); rintro e w1 ⟨rfl, hb1⟩; have hr1 := e_on hb1 hr0 (e_lt hr0); have b1 := hA.trans (hb1.mono hA.size)))
          | (go_at_call 54; ((with_reducible refine (HP.out _ (SW0.trans (Same.below hb1))).mono ?_); rintro e w2 ⟨rfl, hb2⟩; have hr2 := e_on hb2 hr1 (e_lt hr1); have b2 := b1.trans (hb2.mono b1.size); obtain ⟨c0, c1, c2, c3, c4, c5⟩ := HC.out _ ((SW0.trans (Same.below hb1)).trans (Same.below hb2))))
          | ((with_reducible refine Plan.store_lit 28 (.tmp 4) _ (w.heap.size) ?_ hr2 ?_ ?_ ?_ ?_ ?_ ?_); rotate_left; (· rfl); (· rfl); (· exact entry_info); (· rfl); (· simp [Value.oneCell']); simp only [Act.put]))
        exact bodyPost_ret (Plan.results_cell_tmp (p := 4) (q := 5) rfl _ _ _ _ _ _ _ rfl (setRow_heap _ _ _ _ _ _ hr2) Try.underlying28 rfl entry_info) rfl ⟨e_v H9.out.symm, below_setRow b2 (Nat.le_refl _) _⟩
      · rw [if_neg hb] at hge
        have H9 := Lib.hid (H4.out hge)
        have hc := fun W (h : Same F w W) => (show EntAt W x k e from by
          obtain ⟨x', e', hx', he', h'⟩ := HAT.out W h k hk
          obtain rfl := Option.some.inj hx'
          rw [he] at he'
          obtain rfl := Option.some.inj he'
          exact h')
        obtain ⟨eb, ek, ev, em, ez, eo⟩ := e
        try simp only at hb H9 hc
        have hbb : (eb != b) = true := by simpa using hb
        have HC := Lib.hid hc
        clear h2 hple hge he hc hb
        go_enter Try.func35, Try.ntmps35
        have SW0 : Same F w (w.alloc (entRow 0 0 0 0 0 0)) := Same.alloc w _
        generalize hw0 : w.alloc (entRow 0 0 0 0 0 0) = w0 at *
        go_wp2_with (first
          | (go_at_call 50; ((with_reducible refine (HV.out _ SW0).mono ?_); rintro e w1 ⟨rfl, hb1⟩; have hr1 := e_on hb1 hr0 (e_lt hr0); have b1 := hA.trans (hb1.mono hA.size)))
          | (go_at_call 54; ((with_reducible refine (HP.out _ (SW0.trans (Same.below hb1))).mono ?_); rintro e w2 ⟨rfl, hb2⟩; have hr2 := e_on hb2 hr1 (e_lt hr1); have b2 := b1.trans (hb2.mono b1.size); obtain ⟨c0, c1, c2, c3, c4, c5⟩ := HC.out _ ((SW0.trans (Same.below hb1)).trans (Same.below hb2))))
          | ((with_reducible refine Plan.store_lit 28 (.tmp 4) _ (w.heap.size) ?_ hr2 ?_ ?_ ?_ ?_ ?_ ?_); rotate_left; (· rfl); (· rfl); (· exact entry_info); (· rfl); (· simp [Value.oneCell']); simp only [Act.put]))
        exact bodyPost_ret (Plan.results_cell_tmp (p := 4) (q := 5) rfl _ _ _ _ _ _ _ rfl (setRow_heap _ _ _ _ _ _ hr2) Try.underlying28 rfl entry_info) rfl ⟨e_v H9.out.symm, below_setRow b2 (Nat.le_refl _) _⟩
    · obtain rfl : k = len := by omega
      have H9 := Lib.hid (h2 rfl (Nat.le_refl _))
      clear h2 hple
      go_enter Try.func35, Try.ntmps35
      have SW0 : Same F w (w.alloc (entRow 0 0 0 0 0 0)) := Same.alloc w _
      generalize hw0 : w.alloc (entRow 0 0 0 0 0 0) = w0 at *
      go_wp2_with (first
        | (go_at_call 50; ((with_reducible refine (HV.out _ SW0).mono ?_); rintro e w1 ⟨rfl, hb1⟩; have hr1 := e_on hb1 hr0 (e_lt hr0); have b1 := hA.trans (hb1.mono hA.size)))
        | (go_at_call 54; ((with_reducible refine (HP.out _ (SW0.trans (Same.below hb1))).mono ?_); rintro e w2 ⟨rfl, hb2⟩; have hr2 := e_on hb2 hr1 (e_lt hr1); have b2 := b1.trans (hb2.mono b1.size)))
        | ((with_reducible refine Plan.store_lit 28 (.tmp 4) _ (w.heap.size) ?_ hr2 ?_ ?_ ?_ ?_ ?_ ?_); rotate_left; (· rfl); (· rfl); (· exact entry_info); (· rfl); (· simp [Value.oneCell']); simp only [Act.put]))
      exact bodyPost_ret (Plan.results_cell_tmp (p := 4) (q := 5) rfl _ _ _ _ _ _ _ rfl (setRow_heap _ _ _ _ _ _ hr2) Try.underlying28 rfl entry_info) rfl ⟨e_v H9.out.symm, below_setRow b2 (Nat.le_refl _) _⟩
end Go.Proofs.Ytljobnfilnbefaa.Ents

/- What a map that entries are put into is to find: the last with a greater version. Plain mathematics. -/
namespace Go.Proofs.Ytljobnfilnbefaa.EntMath
/-- the entry that is wanted of a block: the zero entry, where there is none -/
def wantM (Ls : List (List Ent)) (b : Int) : Ent := (lookM Ls b).getD zeroE
theorem look_ok {Ls : List (List Ent)} {b : Int} {x : Ent} (h : lookM Ls b = some x) : okE x = true ∧ x.block = b ∧ 1 ≤ x.version := by
  unfold lookM at h
  split at h
  · next hv =>
    have hx := (valid_iff.1 (shard_valid hv.1 b)).1 x (look_mem h)
    exact ⟨hx, look_block h, (Ents.ok_iff.1 hx).2.1⟩
  · cases h
theorem want_there (Ls : List (List Ent)) (b : Int) : (lookM Ls b).isSome = decide (0 < (wantM Ls b).version) := by
  unfold wantM
  cases h : lookM Ls b with
  | none => rfl
  | some x =>
    have := (look_ok h).2.2
    simp only [Option.isSome_some, Option.getD_some]
    exact (decide_eq_true (by omega)).symm
theorem want_newer {Ls : List (List Ent)} {e : Ent} (h : validM Ls = true) (he : okE e = true) : newerM Ls e = decide ((wantM Ls e.block).version < e.version) := by
  have h1 := (Ents.ok_iff.1 he).2.1
  rw [newerM_is h he]
  unfold wantM
  cases lookM Ls e.block with
  | none => exact (decide_eq_true (show (0 : Int) < e.version by omega)).symm
  | some x => rfl
theorem want_old {Ls : List (List Ent)} {e : Ent} (h : validM Ls = true) (he : okE e = true) : installME Ls e = wantM Ls e.block := installME_is h he
theorem want_next {Ls : List (List Ent)} {e : Ent} (h : validM Ls = true) (he : okE e = true) (hn : newerM Ls e = true) {c : Int} (hc : 0 ≤ c) : wantM (installM Ls e) c = if e.block = c then e else wantM Ls c := by
  unfold wantM
  rw [look_installM h he hc]
  by_cases hb : e.block = c
  · rw [if_pos hb, if_pos hb]
    rw [newerM_is h he, hb] at hn
    cases hx : lookM Ls c with
    | none => rfl
    | some x =>
      rw [hx] at hn
      unfold best
      exact congrArg (fun o => Option.getD o zeroE) (if_pos (of_decide_eq_true hn))
  · rw [if_neg hb, if_neg hb]
theorem want_stays {Ls : List (List Ent)} {e : Ent} (hn : newerM Ls e = false) : installM Ls e = Ls := by
  unfold installM
  rw [hn, if_neg (by decide)]
theorem want_empty (n : Nat) (c : Int) : wantM (List.replicate n []) c = zeroE := by
  unfold wantM
  rw [empty_look]
  rfl
/-- the nine entries of the law's own list -/
def want9 (Ls : List (List Ent)) : List Ent := (List.range 9).map fun b : Nat => wantM Ls (b : Int)
theorem want9_len (Ls : List (List Ent)) : (want9 Ls).length = 9 := by simp [want9]
theorem want9_at (Ls : List (List Ent)) {b : Nat} (hb : b < 9) : (want9 Ls)[b]? = some (wantM Ls (b : Int)) := by
  unfold want9
  rw [List.getElem?_map, List.getElem?_range hb]
  rfl
theorem want9_next {Ls : List (List Ent)} {e : Ent} (h : validM Ls = true) (he : okE e = true) (hn : newerM Ls e = true) : want9 (installM Ls e) = (want9 Ls).set e.block.toNat e := by
  have hb := ok_block he
  refine List.ext_getElem? fun i => ?_
  by_cases hi : i < 9
  · rw [want9_at _ hi, want_next h he hn (by omega), List.getElem?_set]
    by_cases hbi : e.block = (i : Int)
    · rw [if_pos hbi, if_pos (by omega), if_pos (by rw [want9_len]; omega)]
    · rw [if_neg hbi, if_neg (by omega), want9_at _ hi]
  · rw [List.getElem?_eq_none (by rw [want9_len]; omega), List.getElem?_eq_none (by rw [List.length_set, want9_len]; omega)]
theorem want9_empty (n : Nat) : want9 (List.replicate n []) = List.replicate 9 zeroE := by
  unfold want9
  exact (List.map_congr_left (g := fun _ : Nat => zeroE) (fun b _ => want_empty n (b : Int))).trans rfl
end Go.Proofs.Ytljobnfilnbefaa.EntMath

/- The walks of the maker's dice: Light, Roll, Next, for any list of numbers. -/
namespace Go.Proofs.Ytljobnfilnbefaa
open Go.RowKit

/-- a list of numbers that came in -/
def IsRow (k : IntKind) (w : World) (a : Option Addr) (len cap : Nat) (zs : List Int) : Prop :=
  (a = none ∧ len = 0 ∧ cap = 0 ∧ zs = []) ∨
  ∃ x, a = some x ∧ len ≤ cap ∧ cap ≤ maxLen ∧ zs.length = cap ∧ (∀ i, i < zs.length → w.cell? (x.add i) = some (.int k (zs.getD i 0))) ∧ ∀ n ∈ zs, (Lit.int k n).wf = true
theorem IsRow.len_le {k : IntKind} {w : World} {a : Option Addr} {len cap : Nat} {zs : List Int} (h : IsRow k w a len cap zs) : len ≤ maxLen := by
  rcases h with ⟨_, rfl, _⟩ | ⟨x, _, h1, h2, _⟩
  · unfold maxLen; omega
  · omega
theorem light_any (a : Option Addr) (len cap : Nat) (w : World) :
    Calls Try.prog 10 #[.slice a len cap] w fun e w' => e = .returned (.bool (decide ((len : Int) ≤ 300))) ∧ w = w' := by
  go_enter Try.func10, Try.ntmps10
  go_wp2
  go_ret
  exact ⟨rfl, rfl⟩

/-- the numbers as cells -/
def ints (zs : List Int) : List Value := zs.map fun n => .int .i64 n
/-- dice: a pointer to a list of numbers of its own, and how many of them have been given out -/
def Dice (w : World) (base g : Nat) (zs : List Int) (k : Nat) : Prop :=
  ∃ v, w.heap[g]? = some (.cells #[v, .int .i64 k] 61 (0, 0)) ∧ w.ownsRow base 3 1 v zs.length (ints zs) ∧ (∀ b, v.ownBlock = some b → b < g) ∧ base ≤ g
/-- the number that is given out, and how many then have been -/
def nxt (zs : List Int) (k : Nat) (n : Int) : Int := if k < zs.length then zs.getD k 0 % n else 0
def stp (zs : List Int) (k : Nat) : Nat := if k < zs.length then k + 1 else k
theorem nxt_range (zs : List Int) (k : Nat) (n : Int) (h : 1 ≤ n) : 0 ≤ nxt zs k n ∧ nxt zs k n < n := by
  unfold nxt
  split
  · exact ⟨Int.emod_nonneg _ (by omega), Int.emod_lt_of_pos _ (by omega)⟩
  · omega
theorem stp_le (zs : List Int) (k : Nat) : stp zs k ≤ k + 1 := by unfold stp; split <;> omega
theorem dice_lt {w : World} {base g : Nat} {zs : List Int} {k : Nat} (h : Dice w base g zs k) : g < w.heap.size := by
  obtain ⟨v, hg, _⟩ := h
  exact (Array.getElem?_eq_some_iff.1 hg).1
theorem dice_base {w : World} {base g : Nat} {zs : List Int} {k : Nat} (h : Dice w base g zs k) : base ≤ g := by
  obtain ⟨v, _, _, _, hb⟩ := h
  exact hb
/-- dice stay as they are where nothing that was there has changed -/
theorem dice_on {B : Nat} {w w' : World} {base g : Nat} {zs : List Int} {k : Nat} (h : Dice w base g zs k) (hb : Below B w w') (hB : w.heap.size ≤ B) : Dice w' base g zs k := by
  have hlt := dice_lt h
  obtain ⟨v, hg, hown, hne, hbase⟩ := h
  refine ⟨v, (hb.block g (by omega)).trans hg, ?_, hne, hbase⟩
  refine hown.kept (row := none) ⟨hb.os, hb.tape, hb.output, hb.size, fun i hi _ => hb.block i (by omega)⟩ ?_
  cases v.ownBlock <;> simp
/-- dice stay as they are where a block that was made later is written -/
theorem dice_far {w w' : World} {base g x : Nat} {zs : List Int} {k : Nat} (h : Dice w base g zs k) (hg : w.grownBy w' (some x)) (hx : g < x) : Dice w' base g zs k := by
  have hlt := dice_lt h
  obtain ⟨v, hr, hown, hne, hbase⟩ := h
  refine ⟨v, (hg.block g hlt (fun e => by have := Option.some.inj e; omega)).trans hr, hown.kept hg (.inr fun e => by have := hne x e; omega), hne, hbase⟩
theorem int_info : (Try.prog.info? 3).map (fun i => (i.zero, i.size, i.bytes)) = some (some (.int .i64 0), 1, 8) := by kernel_rfl
def RollPost (w : World) (zs : List Int) (e : Ending) (w' : World) : Prop := ∃ g, e = .returned (.pointer (some ⟨g, 0, none⟩)) ∧ Dice w' w.heap.size g zs 0 ∧ Below w.heap.size w w'
theorem ints_length (zs : List Int) : (ints zs).length = zs.length := by simp [ints]
theorem ints_get {zs : List Int} {j : Nat} {u : Value} (h : (ints zs)[j]? = some u) : j < zs.length ∧ u = .int .i64 (zs.getD j 0) := by
  have hj : j < zs.length := by
    have := (List.getElem?_eq_some_iff.1 h).1
    rwa [ints_length] at this
  refine ⟨hj, ?_⟩
  simp only [ints, List.getElem?_map, List.getElem?_eq_getElem hj, Option.map_some, Option.some.injEq] at h
  rw [← h, List.getD_eq_getElem?_getD, List.getElem?_eq_getElem hj]
  rfl
theorem ints_one (zs : List Int) : ∀ u ∈ ints zs, u.oneCell' = true := by
  intro u hu
  obtain ⟨n, _, rfl⟩ := List.mem_map.1 hu
  rfl
theorem ints_news {x : Addr} {w : World} {zs : List Int} (hc : ∀ j, j < zs.length → w.cell? (x.add j) = some (.int .i64 (zs.getD j 0))) (o : Obj) : ∀ j u, (ints zs)[j]? = some u → (w.alloc o).cell? (x.add j) = some u := by
  intro j u hu
  obtain ⟨hj, rfl⟩ := ints_get hu
  have h := hc j hj
  rw [World.cell?_alloc_lt _ _ _ (World.block_lt_of_cell? w _ h)]
  exact h
theorem dice_made {w w1 : World} {zs : List Int} {g' c' : Nat} (hown : w1.ownsRow w.heap.size 3 1 (.slice (some ⟨g', 0, none⟩) zs.length c') zs.length (ints zs)) (hb : Below w.heap.size w w1) :
    Dice (w1.alloc (.cells #[.slice (some ⟨g', 0, none⟩) zs.length c', .int .i64 0] 61)) w.heap.size w1.heap.size zs 0 := by
  refine ⟨_, heap_alloc_new w1 _, hown.alloc _, ?_, hb.size⟩
  intro b hb'
  have h : g' = b := Option.some.inj (show some g' = some b from hb')
  subst h
  exact (hown.lt g' rfl).2
theorem slice_of {w : World} {base : Nat} {e : TypeId} {v : Value} {n : Nat} {xs : List Value} (h : w.ownsRow base e 1 v n xs) (hv : v ≠ .slice none 0 0) : ∃ g c, v = .slice (some ⟨g, 0, none⟩) n c := by
  rcases h.2 with ⟨h, _⟩ | ⟨g, c, _, h, _⟩
  · exact absurd h hv
  · exact ⟨g, c, h⟩
set_option maxHeartbeats 400000 in
theorem roll_some (x : Addr) (len cap : Nat) (zs : List Int) (w : World) (hc : ∀ j, j < zs.length → w.cell? (x.add j) = some (.int .i64 (zs.getD j 0))) (hz : zs.length = len) (hl : len ≤ 300) :
    Calls Try.prog 11 #[.slice (some x) len cap] w (RollPost w zs) := by
  obtain ⟨i0, hi0, hz0, hz1, hz2⟩ := info_parts int_info
  have HN := Lib.hid (ints_news hc (.cells #[] 3))
  have HM := Lib.hid (World.ownsRow_made (base := w.heap.size) (e := 3) (size := 1) w #[] 0 (Nat.le_refl _) (Nat.zero_le _) rfl)
  have HZ := Lib.hid hz
  clear hc hz
  go_enter Try.func11, Try.ntmps11
  go_wp2_with (at_builtin; refine wpList_append_own _ rfl _ _ 32 rfl w.heap.size 3 i0 (.int .i64 0) 1 8 Try.underlying32 hi0 hz0 hz1 hz2 rfl (by decide) _ 0 [] rfl HM.out x len cap (ints zs) rfl (by rw [ints_length, HZ.out, Nat.mul_one]) HN.out (ints_one zs) (by unfold maxLen; omega) (by omega) (by simp) ?_; intro v' w1 hown hgrow hiff; obtain ⟨g', c', hv'⟩ := slice_of hown (fun h => by have := (hiff.1 h).1; cases this); subst hv')
  have hb : Below w.heap.size w w1 := ((Below.refl w.heap.size w).alloc (Nat.le_refl _) _).grown hgrow (by simp) (fun k hk => Nat.le_of_eq (Option.some.inj (show some w.heap.size = some k from hk)))
  have hown2 : w1.ownsRow w.heap.size 3 1 (.slice (some ⟨g', 0, none⟩) zs.length c') zs.length (ints zs) := by
    have h := hown
    rw [Nat.zero_add, List.nil_append, ← HZ.out] at h
    obtain ⟨h1, h2⟩ := h
    refine ⟨h1, ?_⟩
    rcases h2 with ⟨h, _⟩ | ⟨g, cp, cur, h, rest⟩
    · cases h
    · cases h; exact .inr ⟨_, _, cur, rfl, rest⟩
  have hd := Lib.hid (dice_made hown2 hb)
  rw [HZ.out] at hd
  clear hown hown2 hiff hgrow
  go_ret
  exact ⟨w1.heap.size, rfl, hd.out, hb.alloc hb.size _⟩
theorem roll_none (w : World) : Calls Try.prog 11 #[.slice none 0 0] w (RollPost w []) := by
  obtain ⟨i0, hi0, hz0, hz1, hz2⟩ := info_parts int_info
  have HM := Lib.hid (World.ownsRow_made (base := w.heap.size) (e := 3) (size := 1) w #[] 0 (Nat.le_refl _) (Nat.zero_le _) rfl)
  have hd := Lib.hid (dice_made (w := w) (zs := []) HM.out ((Below.refl w.heap.size w).alloc (Nat.le_refl _) _))
  go_enter Try.func11, Try.ntmps11
  go_wp2_with (at_builtin; refine wpList_append_own_none rfl _ _ 32 rfl w.heap.size 3 i0 1 Try.underlying32 hi0 _ 0 [] rfl HM.out rfl ?_)
  go_ret
  exact ⟨_, rfl, (by have h := hd.out; rw [World.size_alloc] at h; exact h), (((Below.refl w.heap.size w).alloc (Nat.le_refl _) _)).alloc (by simp) _⟩
/-- Roll, for any list of at most 300 numbers -/
theorem roll_any (a : Option Addr) (len cap : Nat) (z : List Int) (w : World) (hrow : IsRow .i64 w a len cap z) (hl : len ≤ 300) :
    Calls Try.prog 11 #[.slice a len cap] w (RollPost w (z.take len)) := by
  rcases hrow with ⟨rfl, rfl, rfl, rfl⟩ | ⟨x, rfl, h1, h2, h3, h4, h5⟩
  · exact roll_none w
  · have hz : (z.take len).length = len := by rw [List.length_take]; omega
    refine roll_some x len cap (z.take len) w (fun j hj => ?_) hz hl
    rw [h4 j (by omega)]
    rw [List.getD_eq_getElem?_getD, List.getD_eq_getElem?_getD, List.getElem?_take, if_pos (by omega)]
end Go.Proofs.Ytljobnfilnbefaa

/- The walk of the maker's Next, for any dice. -/
namespace Go.Proofs.Ytljobnfilnbefaa
open Go.RowKit Plan

/-- behind Next: the number, the dice one further, nothing else changed -/
def NextPost (w : World) (base g : Nat) (zs : List Int) (k : Nat) (n : Int) (e : Ending) (w' : World) : Prop :=
  e = .returned (.int .i64 (nxt zs k n)) ∧ Dice w' base g zs (stp zs k) ∧ w.grownBy w' (some g) ∧ w'.heap.size = w.heap.size
theorem dice_drew {w : World} {base g : Nat} {zs : List Int} {k : Nat} (h : Dice w base g zs k) : Dice w.drew base g zs k := dice_on h (Below.refl _ _).drew (Nat.le_refl _)
theorem grownBy_drew (w : World) (r : Option Nat) : w.grownBy w.drew r := ⟨rfl, rfl, rfl, Nat.le_refl _, fun _ _ _ => rfl⟩
set_option maxHeartbeats 400000 in
theorem next_end (w : World) (base g : Nat) (zs : List Int) (k : Nat) (n : Int) (hd : Dice w base g zs k) (hk : zs.length ≤ k) :
    Calls Try.prog 19 #[.pointer (some ⟨g, 0, none⟩), .int .i64 n] w (NextPost w base g zs k n) := by
  have hd2 := dice_drew hd
  obtain ⟨v, hg, hown, hne, hb⟩ := hd
  have c0 := cell_of_row _ _ 0 _ _ _ hg
  have c1 := cell_of_row _ _ 1 _ _ _ hg
  simp only [List.getElem?_toArray, List.getElem?_cons_zero, List.getElem?_cons_succ] at c0 c1
  have hle : decide ((zs.length : Int) ≤ (k : Int)) = true := by simp; omega
  have hv : v = .slice none 0 0 ∧ zs.length = 0 ∨ ∃ b c, v = .slice (some ⟨b, 0, none⟩) zs.length c := by
    rcases hown.2 with h | ⟨b, c, _, h, _⟩
    · exact .inl h
    · exact .inr ⟨b, c, h⟩
  have hx : nxt zs k n = 0 := if_neg (by omega)
  have hs : stp zs k = k := if_neg (by omega)
  have HX := Lib.hid hx
  have HS := Lib.hid hs
  have HD := Lib.hid hd2
  clear hx hs hd2 hg hown
  rcases hv with ⟨rfl, h0⟩ | ⟨b, c, rfl⟩
  · rw [h0] at hle
    clear h0
    go_enter Try.func19, Try.ntmps19
    go_wp2_with fail
    refine Plan.start (fun w' => w' = w.drew) [(0, true), (1, true), (2, true), (3, true), (4, true), (5, true), (6, true), (7, true), (8, true), (9, true)] (by kernel_rfl) (by kernel_rfl) (by kernel_rfl) (by kernel_rfl) rfl ?_
    simp only [List.map_cons, List.map_nil, List.getElem?_toArray, List.getElem?_cons_zero, List.getElem?_cons_succ]
    repeat (first | (refine Plan.take ?_ (by rfl) ?_ ?_; rotate_left; (· rintro w9 rfl; go_simp; (try rw [if_neg (by omega)]); all_goals (with_reducible rfl)); simp only [Act.put, List.setIfInBounds_toArray, List.set_cons_zero, List.set_cons_succ]) | (refine Plan.pass (by rfl) ?_; simp only [Act.put, List.setIfInBounds_toArray, List.set_cons_zero, List.set_cons_succ]))
    refine Plan.ends ?_
    go_wp2
    go_ret
    exact ⟨ret_i64 HX.out.symm, by rw [HS.out]; exact HD.out, grownBy_drew _ _, rfl⟩
  · go_enter Try.func19, Try.ntmps19
    go_wp2_with fail
    refine Plan.start (fun w' => w' = w.drew) [(0, true), (1, true), (2, true), (3, true), (4, true), (5, true), (6, true), (7, true), (8, true), (9, true)] (by kernel_rfl) (by kernel_rfl) (by kernel_rfl) (by kernel_rfl) rfl ?_
    simp only [List.map_cons, List.map_nil, List.getElem?_toArray, List.getElem?_cons_zero, List.getElem?_cons_succ]
    repeat (first | (refine Plan.take ?_ (by rfl) ?_ ?_; rotate_left; (· rintro w9 rfl; go_simp; (try rw [if_neg (by omega)]); all_goals (with_reducible rfl)); simp only [Act.put, List.setIfInBounds_toArray, List.set_cons_zero, List.set_cons_succ]) | (refine Plan.pass (by rfl) ?_; simp only [Act.put, List.setIfInBounds_toArray, List.set_cons_zero, List.set_cons_succ]))
    refine Plan.ends ?_
    go_wp2
    go_ret
    exact ⟨ret_i64 HX.out.symm, by rw [HS.out]; exact HD.out, grownBy_drew _ _, rfl⟩
theorem dice_step {w : World} {base g : Nat} {zs : List Int} {k : Nat} (h : Dice w base g zs k) (j : Nat) : Dice (w.setCell ⟨g, 1, none⟩ (.int .i64 j)) base g zs j := by
  obtain ⟨v, hg, hown, hne, hb⟩ := h
  refine ⟨v, ?_, hown.kept (row := some g) ⟨rfl, rfl, rfl, Nat.le_of_eq (by simp [World.setCell]), fun i _ hne => Below.heap_setCell w ⟨g, 1, none⟩ _ i (fun e => hne (by rw [e]))⟩ (.inr fun e => Nat.lt_irrefl _ (hne g e)), hne, hb⟩
  rw [setCell_eq_setRow w g 1 _ _ _ _ hg]
  exact setRow_heap w g _ _ _ _ hg
theorem grownBy_step (w : World) (g : Nat) (x : Value) : w.grownBy (w.setCell ⟨g, 1, none⟩ x) (some g) :=
  ⟨rfl, rfl, rfl, Nat.le_of_eq (by simp [World.setCell]), fun i _ hne => Below.heap_setCell w ⟨g, 1, none⟩ _ i (fun e => hne (by rw [e]))⟩
theorem grownBy_trans {a b c : World} {r : Option Nat} (h : a.grownBy b r) (h2 : b.grownBy c r) : a.grownBy c r :=
  ⟨h2.os.trans h.os, h2.tape.trans h.tape, h2.output.trans h.output, Nat.le_trans h.size h2.size, fun k hk hr => (h2.block k (Nat.lt_of_lt_of_le hk h.size) hr).trans (h.block k hk hr)⟩
set_option maxHeartbeats 1000000 in
theorem next_more (w : World) (base g : Nat) (zs : List Int) (k : Nat) (n : Int) (hd : Dice w base g zs k) (hk : k < zs.length) (hl : zs.length ≤ 100000) (hn1 : 1 ≤ n) (hn2 : n ≤ 4611686018427387904) :
    Calls Try.prog 19 #[.pointer (some ⟨g, 0, none⟩), .int .i64 n] w (NextPost w base g zs k n) := by
  have hstep := dice_step (dice_drew hd) (k + 1)
  obtain ⟨v, hg, hown, hne, hb⟩ := hd
  have c0 := cell_of_row _ _ 0 _ _ _ hg
  have c1 := cell_of_row _ _ 1 _ _ _ hg
  simp only [List.getElem?_toArray, List.getElem?_cons_zero, List.getElem?_cons_succ] at c0 c1
  have f1 : w.frozen? ⟨g, 1, none⟩ = false := by simp [World.frozen?, hg]
  have hle : decide ((zs.length : Int) ≤ (k : Int)) = false := by simp; omega
  have hv : ∃ b c, v = .slice (some ⟨b, 0, none⟩) zs.length c := by
    rcases hown.2 with ⟨_, h⟩ | ⟨b, c, _, h, _⟩
    · omega
    · exact ⟨b, c, h⟩
  obtain ⟨b, c, rfl⟩ := hv
  have hbg : b ≠ g := Nat.ne_of_lt (hne b rfl)
  have ck := hown.cells (g := b) rfl k (.int .i64 (zs.getD k 0)) (by
    simp only [ints, List.getElem?_map, List.getElem?_eq_getElem hk, Option.map_some]
    rw [List.getD_eq_getElem?_getD, List.getElem?_eq_getElem hk]
    rfl)
  have hadd : (⟨b, 0, none⟩ : Addr).add k = ⟨b, k, none⟩ := by unfold Addr.add; split <;> simp_all
  rw [hadd] at ck
  have hm : ∀ w, Calls Try.prog 13 #[.int .i64 (zs.getD k 0), .int .i64 n] w fun e w' => e = .returned (.int .i64 (zs.getD k 0 % n)) ∧ w = w' := fun w => mod_any _ n hn1 hn2 w
  have hx : nxt zs k n = zs.getD k 0 % n := if_pos hk
  have hs : stp zs k = k + 1 := if_pos hk
  have hwk : IntKind.i64.wrap (k : Int) = (k : Int) := IntWalk.i64_in _ (by omega)
  have k0 : (0 : Int) ≤ (k : Int) := by omega
  have k1 : (k : Int) < (zs.length : Int) := by omega
  have HX := Lib.hid hx
  have HS := Lib.hid hs
  have HD := Lib.hid hstep
  have HM := Lib.hid hm
  clear hx hs hstep hm hg hown hadd hne hk
  generalize zs.getD k 0 = z at *
  generalize zs.length = L at *
  go_enter Try.func19, Try.ntmps19
  go_wp2_with fail
  refine Plan.start (fun w' => w' = w.drew) [(0, true), (1, true), (2, true), (3, true), (4, true), (5, true), (6, true), (7, true), (8, true), (9, true)] (by kernel_rfl) (by kernel_rfl) (by kernel_rfl) (by kernel_rfl) rfl ?_
  simp only [List.map_cons, List.map_nil, List.getElem?_toArray, List.getElem?_cons_zero, List.getElem?_cons_succ]
  repeat (first | (refine Plan.take ?_ (by rfl) ?_ ?_; rotate_left; (· rintro w9 rfl; go_simp; (try rw [if_neg (by omega)]); all_goals (with_reducible rfl)); simp only [Act.put, List.setIfInBounds_toArray, List.set_cons_zero, List.set_cons_succ]) | (refine Plan.pass (by rfl) ?_; simp only [Act.put, List.setIfInBounds_toArray, List.set_cons_zero, List.set_cons_succ]))
  refine Plan.ends ?_
  go_wp2_with fail
  have d0 : (w.setCell ⟨g, 1, none⟩ (.int .i64 ((k : Int) + 1))).drew.cell? ⟨g, 0, none⟩ = some (.slice (some ⟨b, 0, none⟩) L c) := (World.cell?_setCell_other _ _ _ _ (by simp)).trans c0
  have d1 : (w.setCell ⟨g, 1, none⟩ (.int .i64 ((k : Int) + 1))).drew.cell? ⟨g, 1, none⟩ = some (.int .i64 ((k : Int) + 1)) := World.cell?_setCell_same _ _ _ c1
  have dk : (w.setCell ⟨g, 1, none⟩ (.int .i64 ((k : Int) + 1))).drew.cell? ⟨b, k, none⟩ = some (.int .i64 z) := (World.cell?_setCell_other _ _ _ _ (by intro h; cases h; exact hbg rfl)).trans ck
  have e1 : w.grownBy (w.setCell ⟨g, 1, none⟩ (.int .i64 ((k : Int) + 1))).drew (some g) := grownBy_trans (grownBy_step w g _) (grownBy_drew _ _)
  have e2 : (w.setCell ⟨g, 1, none⟩ (.int .i64 ((k : Int) + 1))).drew.heap.size = w.heap.size := by simp [World.setCell, World.drew]
  have e3 : Dice (w.setCell ⟨g, 1, none⟩ (.int .i64 ((k : Int) + 1))).drew base g zs (k + 1) := by
    have h := HD.out
    rw [show ((k + 1 : Nat) : Int) = (k : Int) + 1 by omega] at h
    exact h
  generalize (w.setCell ⟨g, 1, none⟩ (.int .i64 ((k : Int) + 1))).drew = W at d0 d1 dk e1 e2 e3 ⊢
  have E3 := Lib.hid e3
  have E2 := Lib.hid e2
  clear e2 e3 c0 c1 ck HD
  refine Plan.start (fun w' => w' = W.drew) [(0, true), (1, true), (2, true), (3, true), (4, true), (5, true), (6, true), (7, true), (8, true), (9, true), (10, true), (11, true), (12, false), (13, true)] (by kernel_rfl) (by kernel_rfl) (by kernel_rfl) (by kernel_rfl) rfl ?_
  simp only [List.map_cons, List.map_nil, List.getElem?_toArray, List.getElem?_cons_zero, List.getElem?_cons_succ]
  repeat (first | (refine Plan.take ?_ (by rfl) ?_ ?_; rotate_left; (· rintro w9 rfl; go_simp; (try rw [if_neg (by omega)]); all_goals (with_reducible rfl)); simp only [Act.put, List.setIfInBounds_toArray, List.set_cons_zero, List.set_cons_succ]) | (refine Plan.pass (by rfl) ?_; simp only [Act.put, List.setIfInBounds_toArray, List.set_cons_zero, List.set_cons_succ]))
  refine Plan.call (by rfl) 13 _ ?_ (HM.out _) ?_
  · go_simp
  rintro e w1 ⟨rfl, rfl⟩
  refine ⟨_, rfl, rfl, ?_⟩
  simp only [Act.put, List.setIfInBounds_toArray, List.set_cons_zero, List.set_cons_succ]
  repeat (first | (refine Plan.take ?_ (by rfl) ?_ ?_; rotate_left; (· rintro w9 rfl; go_simp; (try rw [if_neg (by omega)]); all_goals (with_reducible rfl)); simp only [Act.put, List.setIfInBounds_toArray, List.set_cons_zero, List.set_cons_succ]) | (refine Plan.pass (by rfl) ?_; simp only [Act.put, List.setIfInBounds_toArray, List.set_cons_zero, List.set_cons_succ]))
  refine Plan.ends ?_
  go_wp2
  go_ret
  exact ⟨ret_i64 HX.out.symm, by rw [HS.out]; exact dice_drew E3.out, grownBy_trans e1 (grownBy_drew _ _), E2.out⟩
/-- Next, for any dice of at most 100000 numbers -/
theorem next_any (w : World) (base g : Nat) (zs : List Int) (k : Nat) (n : Int) (hd : Dice w base g zs k) (hl : zs.length ≤ 100000) (hn1 : 1 ≤ n) (hn2 : n ≤ 4611686018427387904) :
    Calls Try.prog 19 #[.pointer (some ⟨g, 0, none⟩), .int .i64 n] w (NextPost w base g zs k n) := by
  by_cases hk : k < zs.length
  · exact next_more w base g zs k n hd hk hl hn1 hn2
  · exact next_end w base g zs k n hd (by omega)
end Go.Proofs.Ytljobnfilnbefaa

/- The walk of the maker's Rest, for any dice. -/
namespace Go.Proofs.Ytljobnfilnbefaa
open Go.RowKit Plan
set_option maxHeartbeats 400000 in
/-- Rest: how many numbers are left -/
theorem rest_dice (w : World) (base g : Nat) (zs : List Int) (k : Nat) (hd : Dice w base g zs k) (hl : zs.length ≤ 100000) (hk : k ≤ 100000) :
    Calls Try.prog 16 #[.pointer (some ⟨g, 0, none⟩)] w fun e w' => e = .returned (.int .i64 (max 0 ((zs.length : Int) - (k : Int)))) ∧ w' = w.drew := by
  obtain ⟨v, hg, hown, hne, hb⟩ := hd
  have c0 := cell_of_row _ _ 0 _ _ _ hg
  have c1 := cell_of_row _ _ 1 _ _ _ hg
  simp only [List.getElem?_toArray, List.getElem?_cons_zero, List.getElem?_cons_succ] at c0 c1
  have hwr : IntKind.i64.wrap ((zs.length : Int) - (k : Int)) = (zs.length : Int) - (k : Int) := IntWalk.i64_in _ (by omega)
  have hv : ∃ a c, v = .slice a zs.length c := by
    rcases hown.2 with ⟨h, h0⟩ | ⟨b, c, _, h, _⟩
    · exact ⟨none, 0, by rw [h, h0]⟩
    · exact ⟨_, c, h⟩
  obtain ⟨a, c, rfl⟩ := hv
  clear hown hne hg
  go_enter Try.func16, Try.ntmps16
  go_wp2_with fail
  refine Plan.start (fun w' => w' = w.drew) [(0, true), (1, true), (2, true), (3, true), (4, true), (5, true), (6, true), (7, true), (8, true), (9, true), (10, true), (11, true)] (by kernel_rfl) (by kernel_rfl) (by kernel_rfl) (by kernel_rfl) rfl ?_
  simp only [List.map_cons, List.map_nil, List.getElem?_toArray, List.getElem?_cons_zero, List.getElem?_cons_succ]
  repeat (first | (refine Plan.take ?_ (by rfl) ?_ ?_; rotate_left; (· rintro w9 rfl; go_simp; (try rw [if_neg (by omega)]); all_goals (with_reducible rfl)); simp only [Act.put, List.setIfInBounds_toArray, List.set_cons_zero, List.set_cons_succ]) | (refine Plan.pass (by rfl) ?_; simp only [Act.put, List.setIfInBounds_toArray, List.set_cons_zero, List.set_cons_succ]))
  refine Plan.ends ?_
  go_wp2
  all_goals go_ret
  all_goals exact ⟨ret_i64 (by omega), rfl⟩
end Go.Proofs.Ytljobnfilnbefaa

/- Appends to a list of entries that the call owns: a list, one entry; in a walk and in a region that draws its order. -/
namespace Go.Proofs.Ytljobnfilnbefaa.Ents
open Go.RowKit Plan EntMath
theorem e_info : (Try.prog.info? 28).map (fun i => (i.zero, i.size, i.bytes)) = some (some (.agg #[.int .i64 0, .int .i64 0, .int .i64 0, .int .i64 0, .int .i64 0, .int .i64 0]), 6, 48) := by kernel_rfl
theorem e_grown (w : World) (r : Option Nat) : w.grownBy w r := ⟨rfl, rfl, rfl, Nat.le_refl _, fun _ _ _ => rfl⟩
theorem EList.news {w : World} {F : Nat → Prop} {ad : Addr} {len cap : Nat} {L : List Ent} (h : EList w F (some ad) len cap L) : ∀ j u, (ents L)[j]? = some u → w.cell? (ad.add j) = some u := by
  rcases h with ⟨_, _, _, rfl⟩ | ⟨x, h1, _, _, _, _, _, h7⟩
  · intro j u hu
    simp [ents] at hu
  · obtain rfl := Option.some.inj h1
    exact h7
theorem EList.none {w : World} {F : Nat → Prop} {len cap : Nat} {L : List Ent} (h : EList w F none len cap L) : len = 0 ∧ cap = 0 ∧ L = [] := by
  rcases h with ⟨_, h⟩ | ⟨x, h1, _⟩
  · exact h
  · cases h1
theorem wp_append_ents {F : Nat → Prop} {w : World} {o : Oper} {a : Act} {K : Act → World → Prop} {Q : Exit → Act → World → Prop} (s x : Operand)
    (ho : o.op = .call { callee := .builtin .append, args := #[s, x], argTypes := #[49, 49] })
    (base : Nat) (v : Value) (m0 : Nat) (M : List Ent) (hs : a.eval s = v) (hown : w.ownsRow base 28 6 v m0 (ents M)) (sa : Option Addr) (m c : Nat) (L : List Ent) (hx : a.eval x = .slice sa m c) (hl : EList w F sa m c L) (hm : m0 + m ≤ 1000000) (hbase : base ≤ w.heap.size)
    (h : ∀ v' w', w'.ownsRow base 28 6 v' (m0 + m) (ents (M ++ L)) → w.grownBy w' v.ownBlock → K (a.put o.dst v') w') : o.wp Try.prog a w K Q := by
  obtain ⟨i1, hi1, hy0, hy1, hy2⟩ := info_parts e_info
  cases sa with
  | none =>
    obtain ⟨rfl, rfl, rfl⟩ := hl.none
    have hrun := run_append_owned_none (P := Try.prog) (w := w) base 49 o.type 28 i1 6 Try.underlying49 hi1 v m0 (ents M) hown
    unfold Oper.wp
    simp [execOp, ho, resolve, invoke, builtin, hs, hx, hrun, Result.andThen]
    exact h v w (by rw [List.append_nil]; exact hown) (e_grown _ _)
  | some ad =>
    refine wp_append_own w s x 49 ho base 28 i1 _ 6 48 Try.underlying49 hi1 hy0 hy1 hy2 rfl (by decide) v m0 (ents M) hs hown ad m c (ents L) hx (by rw [ents_length, hl.length]) hl.news (ents_flat L) (by unfold maxLen; omega) (by omega) hbase ?_
    intro v' w' h1 h2 _
    rw [← ents_append] at h1
    exact h v' w' h1 h2
theorem append_ents {F : Nat → Prop} {w : World} {ops : Array Oper} {rest : List Oper} {o : Oper} {a : Act} {Q : Exit → Act → World → Prop} (hgd : o.guard = none) (s x : Operand)
    (ho : o.op = .call { callee := .builtin .append, args := #[s, x], argTypes := #[49, 49] })
    (base : Nat) (v : Value) (m0 : Nat) (M : List Ent) (hs : a.eval s = v) (hown : w.ownsRow base 28 6 v m0 (ents M)) (sa : Option Addr) (m c : Nat) (L : List Ent) (hx : a.eval x = .slice sa m c) (hl : EList w F sa m c L) (hm : m0 + m ≤ 1000000) (hbase : base ≤ w.heap.size)
    (h : ∀ v' w', w'.ownsRow base 28 6 v' (m0 + m) (ents (M ++ L)) → w.grownBy w' v.ownBlock → wpList Try.prog ops Q rest (a.put o.dst v') w') : wpList Try.prog ops Q (o :: rest) a w :=
  wpList_plain hgd fun _ hK => wp_append_ents s x ho base v m0 M hs hown sa m c L hx hl hm hbase fun v' w' h1 h2 => hK _ _ (h v' w' h1 h2)
/-- one entry in a block of its own -/
theorem elist_one {w : World} {g : Nat} {b k v m z o : Int} (h : w.heap[g]? = some (entRow b k v m z o)) : EList w (fun _ => True) (some ⟨g, 0, none⟩) 1 1 [⟨b, k, v, m, z, o⟩] := by
  refine .inr ⟨_, rfl, Nat.le_refl _, by unfold maxLen; decide, rfl, (Array.getElem?_eq_some_iff.1 h).1, trivial, fun j u hu => ?_⟩
  rw [ents_one] at hu
  have hj := (List.getElem?_eq_some_iff.1 hu).1
  rw [Addr.add_lit, Nat.zero_add]
  obtain ⟨h0, h1, h2, h3, h4, h5⟩ := entry_row h
  simp only [entC, List.length_cons, List.length_nil] at hj
  match j, hj, hu with
  | 0, _, hu => obtain rfl := Option.some.inj hu; exact h0
  | 1, _, hu => obtain rfl := Option.some.inj hu; exact h1
  | 2, _, hu => obtain rfl := Option.some.inj hu; exact h2
  | 3, _, hu => obtain rfl := Option.some.inj hu; exact h3
  | 4, _, hu => obtain rfl := Option.some.inj hu; exact h4
  | 5, _, hu => obtain rfl := Option.some.inj hu; exact h5
end Go.Proofs.Ytljobnfilnbefaa.Ents
