
/- The walk of the program's Install. -/
import Derived.Test.YtbaclgedohpibaaShPCat2
namespace Go.Proofs.Ytbaclgedohpibaa.Ents
open Go.RowKit Plan EntMath
theorem lists3 {w : World} {F0 F1 F2 : Nat → Prop} {g : Nat} {a0 a1 a2 : Option Addr} {n0 c0 n1 c1 n2 c2 : Nat} {L0 L1 L2 : List Ent} {t : TypeId} {fr : Nat × Nat} (hg : w.heap[g]? = some (.cells #[.slice a0 n0 c0, .slice a1 n1 c1, .slice a2 n2 c2] t fr)) (h0 : EList w F0 a0 n0 c0 L0) (h1 : EList w F1 a1 n1 c1 L1) (h2 : EList w F2 a2 n2 c2 L2) : ListsAt w (fun _ => True) ⟨g, 0, none⟩ [L0, L1, L2] := by
  refine ⟨fun i L hi => ?_⟩
  rw [Addr.add_lit, Nat.zero_add]
  have hlt := (List.getElem?_eq_some_iff.1 hi).1
  simp only [List.length_cons, List.length_nil] at hlt
  match i, hlt, hi with
  | 0, _, hi => obtain rfl := Option.some.inj hi; exact ⟨_, _, _, cell_of_row _ _ 0 _ _ _ hg, h0.mono fun _ _ _ => trivial⟩
  | 1, _, hi => obtain rfl := Option.some.inj hi; exact ⟨_, _, _, cell_of_row _ _ 1 _ _ _ hg, h1.mono fun _ _ _ => trivial⟩
  | 2, _, hi => obtain rfl := Option.some.inj hi; exact ⟨_, _, _, cell_of_row _ _ 2 _ _ _ hg, h2.mono fun _ _ _ => trivial⟩
theorem flat3 (L : List Ent) (k : Nat) (e : Ent) : [L.take k, [e], L.drop k].flatten = (L.take k ++ [e]) ++ L.drop k := by simp
theorem flat3_len (L : List Ent) (k : Nat) (e : Ent) : ([L.take k, [e], L.drop k].flatten).length = L.length + 1 := by
  rw [flat3]
  simp
  omega
theorem EList.to {w : World} {F : Nat → Prop} {a : Option Addr} {n n' c : Nat} {L : List Ent} (h : EList w F a n c L) (hn : n' = n) : EList w F a n' c L := hn ▸ h
theorem not_new {F : Nat → Prop} {H N r : Nat} (h1 : r < N) (h9 : Plus (fun b => F b ∧ b < H) N r) (hH : H ≤ r) : False := by
  rcases h9 with h | h
  · exact absurd h.2 (by omega)
  · omega
set_option maxHeartbeats 4000000 in
set_option maxRecDepth 20000 in
theorem install_any (F : Nat → Prop) (L : List Ent) (e : Ent) (a : Option Addr) (len cap : Nat) (w : World) (hF : ∀ b, F b → b < w.heap.size) (hl : EList w F a len cap L) (hm : len ≤ 800000) :
    Calls Try.prog 19 #[.slice a len cap, entV e] w (InstPost w F (installL L e) (installE L e) (newer L e)) := by
  have hlen := hl.length
  have hA := ((Below.refl w.heap.size w).alloc (Nat.le_refl _) (entRow e.block e.kind e.version e.move e.zone e.offset)).alloc (by simp) (entRow 0 0 0 0 0 0)
  have hr0 := heap_second w (entRow e.block e.kind e.version e.move e.zone e.offset) (entRow 0 0 0 0 0 0)
  have hx0 := heap_first w (entRow e.block e.kind e.version e.move e.zone e.offset) (entRow 0 0 0 0 0 0)
  have hs0 : ((w.alloc (entRow e.block e.kind e.version e.move e.zone e.offset)).alloc (entRow 0 0 0 0 0 0)).heap.size = w.heap.size + 2 := by simp
  have hlow := fun W (h : Below w.heap.size w W) => hl.low.on (Same.low h)
  have HV := Lib.hid (fun W h => valid_any _ L a len cap W (hlow W h))
  have HE := Lib.hid (fun W => possible_any e W)
  have hple := place_le L e.block
  rw [hlen] at hple
  have HLOW := Lib.hid hlow
  have HL := Lib.hid hl
  have HF := Lib.hid hF
  clear hF
  have hend := fun W (h : Below w.heap.size w W) (cs : Array Value) => (show EList (W.setRow (w.heap.size + 1) cs) (Plus F w.heap.size) a len cap L from
    ((hl.cut.on (Same.below (w' := W) ⟨h.os, h.tape, h.output, h.size, h.block⟩)).on (Same.row (r := w.heap.size + 1) (fun h9 => by have := h9.2; omega) cs)).mono (fun b _ h => .inl h.1))
  have HEND := Lib.hid hend
  clear hend hl
  cases hva : validB L
  · obtain ⟨r1, r2, r3⟩ := inst_a (e := e) hva
    rw [r1, r2, r3]
    rw [hva] at HV
    clear r1 r2 r3 hva hlow
    obtain ⟨eb, ek, ev, em, ez, eo⟩ := e
    try simp only at HV HE hA hr0 hx0 hs0
    go_enter Try.func19, Try.ntmps19
    generalize hw0 : (w.alloc (entRow eb ek ev em ez eo)).alloc (entRow 0 0 0 0 0 0) = w0 at *
    obtain ⟨c0, c1, c2, c3, c4, c5⟩ := entry_row hx0
    go_wp2_with (first
      | (go_at_call 22; ((with_reducible refine (HV.out _ hA).mono ?_); rintro e9 w1 ⟨rfl, hb1⟩; have hr1 := e_on hb1 hr0 (e_lt hr0); have hx1 := e_on hb1 hx0 (e_lt hx0); have b1 := hA.trans (hb1.mono hA.size); clear c0 c1 c2 c3 c4 c5; obtain ⟨c0, c1, c2, c3, c4, c5⟩ := entry_row hx1))
      | ((with_reducible refine Plan.store_lit 26 (.tmp 5) _ (w.heap.size + 1) ?_ hr1 ?_ ?_ ?_ ?_ ?_ ?_); rotate_left; (· rfl); (· rfl); (· exact entry_info); (· rfl); (· simp [Value.oneCell']); simp only [Act.put]))
    exact bodyPost_ret (results_tct (p := 4) (q := 5) (r := 6) rfl _ _ _ _ _ _ _ rfl (setRow_heap _ _ _ _ _ _ hr1) Try.underlying26 rfl entry_info) rfl ⟨_, _, _, rfl, EList.nil _ _, below_setRow b1 (show w.heap.size ≤ w.heap.size + 1 by omega) _⟩
  · rw [hva] at HV
    have hasc := (valid_iff.1 hva).2
    cases hok : okE e
    · obtain ⟨r1, r2, r3⟩ := inst_b hva hok
      rw [r1, r2, r3]
      rw [hok] at HE
      clear r1 r2 r3 hva hok hlow hasc
      obtain ⟨eb, ek, ev, em, ez, eo⟩ := e
      try simp only at HV HE hA hr0 hx0 hs0
      go_enter Try.func19, Try.ntmps19
      generalize hw0 : (w.alloc (entRow eb ek ev em ez eo)).alloc (entRow 0 0 0 0 0 0) = w0 at *
      obtain ⟨c0, c1, c2, c3, c4, c5⟩ := entry_row hx0
      go_wp2_with (first
        | (go_at_call 22; ((with_reducible refine (HV.out _ hA).mono ?_); rintro e9 w1 ⟨rfl, hb1⟩; have hr1 := e_on hb1 hr0 (e_lt hr0); have hx1 := e_on hb1 hx0 (e_lt hx0); have b1 := hA.trans (hb1.mono hA.size); clear c0 c1 c2 c3 c4 c5; obtain ⟨c0, c1, c2, c3, c4, c5⟩ := entry_row hx1))
        | (go_at_call 29; ((with_reducible refine (HE.out _).mono ?_); rintro e9 w2 ⟨rfl, hb2⟩; have hr2 := e_on hb2 hr1 (e_lt hr1); have hx2 := e_on hb2 hx1 (e_lt hx1); have b2 := b1.trans (hb2.mono b1.size); clear c0 c1 c2 c3 c4 c5; obtain ⟨c0, c1, c2, c3, c4, c5⟩ := entry_row hx2))
        | ((with_reducible refine Plan.store_lit 26 (.tmp 5) _ (w.heap.size + 1) ?_ hr2 ?_ ?_ ?_ ?_ ?_ ?_); rotate_left; (· rfl); (· rfl); (· exact entry_info); (· rfl); (· simp [Value.oneCell']); simp only [Act.put]))
      exact bodyPost_ret (results_tct (p := 4) (q := 5) (r := 6) rfl _ _ _ _ _ _ _ rfl (setRow_heap _ _ _ _ _ _ hr2) Try.underlying26 rfl entry_info) rfl ⟨_, _, _, rfl, HEND.out _ b2 _, below_setRow b2 (show w.heap.size ≤ w.heap.size + 1 by omega) _⟩
    · rw [hok] at HE
      have HI := Lib.hid (fun W (h : Below w.heap.size w W) => index_any _ L e.block a len cap W (hlow W h) hasc (by omega))
      unfold IndexPost at HI
      cases hlk : lookE L e.block with
      | none =>
        obtain ⟨r1, r2, r3⟩ := inst_d hva hok hlk
        rw [r2, r3]
        rw [hlk] at HI
        generalize installL L e = LL at r1 ⊢
        rw [← flat3] at r1
        clear r2 r3 hva hok hlk hasc hlow HEND
        generalize hkk : place L e.block = k at *
        have h3l := flat3_len L k e
        have HCC := Lib.hid (fun W y (h : ListsAt W (fun _ => True) y [L.take k, [e], L.drop k]) => concat_any _ [L.take k, [e], L.drop k] y 3 3 W h rfl (by decide) (by omega) (by omega))
        unfold OwnPost at HCC
        clear h3l
        have HLL := Lib.hid r1
        clear r1
        obtain ⟨eb, ek, ev, em, ez, eo⟩ := e
        try simp only at HV HE hA hr0 hx0 hs0 HI HLL HCC
        clear hkk
        rcases a with _ | x
        · obtain ⟨rfl, rfl, rfl⟩ := HL.out.none
          obtain rfl : k = 0 := by omega
          have HT := Lib.hid (fun W (h : Below w.heap.size w W) => (HLOW.out W h).taken (0) (by omega))
          have hd : ∀ W (h : Below w.heap.size w W), EList W (fun b => b < w.heap.size) none 0 0 (([] : List Ent).drop 0) := fun W h => HLOW.out W h
          have HD := Lib.hid hd
          clear hd
          go_enter Try.func19, Try.ntmps19
          generalize hw0 : (w.alloc (entRow eb ek ev em ez eo)).alloc (entRow 0 0 0 0 0 0) = w0 at *
          obtain ⟨c0, c1, c2, c3, c4, c5⟩ := entry_row hx0
          go_wp2_with (first
            | (go_at_call 22; ((with_reducible refine (HV.out _ hA).mono ?_); rintro e9 w1 ⟨rfl, hb1⟩; have hr1 := e_on hb1 hr0 (e_lt hr0); have hx1 := e_on hb1 hx0 (e_lt hx0); have b1 := hA.trans (hb1.mono hA.size); clear c0 c1 c2 c3 c4 c5; obtain ⟨c0, c1, c2, c3, c4, c5⟩ := entry_row hx1))
            | (go_at_call 29; ((with_reducible refine (HE.out _).mono ?_); rintro e9 w2 ⟨rfl, hb2⟩; have hr2 := e_on hb2 hr1 (e_lt hr1); have hx2 := e_on hb2 hx1 (e_lt hx1); have b2 := b1.trans (hb2.mono b1.size); clear c0 c1 c2 c3 c4 c5; obtain ⟨c0, c1, c2, c3, c4, c5⟩ := entry_row hx2))
            | (go_at_call 30; ((with_reducible refine (HI.out _ b2).mono ?_); rintro e9 w3 ⟨rfl, hb3⟩; have hr3 := e_on hb3 hr2 (e_lt hr2); have hx3 := e_on hb3 hx2 (e_lt hx2); have b3 := b2.trans (hb3.mono b2.size); clear c0 c1 c2 c3 c4 c5; obtain ⟨c0, c1, c2, c3, c4, c5⟩ := entry_row hx3; have n3 : w.heap.size + 2 ≤ w3.heap.size := Nat.le_trans (by omega) (Nat.le_trans hb1.size (Nat.le_trans hb2.size hb3.size)))))
          have hq4 : (w3.drew.alloc (entRow eb ek ev em ez eo)).heap[w3.heap.size]? = some (entRow eb ek ev em ez eo) := heap_alloc_new w3.drew (entRow eb ek ev em ez eo)
          have b4 : Below w.heap.size w (w3.drew.alloc (entRow eb ek ev em ez eo)) := b3.drew.alloc b3.size _
          have b5 : Below w.heap.size w ((w3.drew.alloc (entRow eb ek ev em ez eo)).alloc (.cells #[.slice none 0 0, .slice (some ⟨w3.heap.size, 0, none⟩) 1 1, .slice none 0 0] 22)) := b4.alloc b4.size _
          have hl5 : ((w3.drew.alloc (entRow eb ek ev em ez eo)).alloc (.cells #[.slice none 0 0, .slice (some ⟨w3.heap.size, 0, none⟩) 1 1, .slice none 0 0] 22)).heap[w3.heap.size + 1]? = some (.cells #[.slice none 0 0, .slice (some ⟨w3.heap.size, 0, none⟩) 1 1, .slice none 0 0] 22) := by
            have := heap_alloc_new (w3.drew.alloc (entRow eb ek ev em ez eo)) (.cells #[.slice none 0 0, .slice (some ⟨w3.heap.size, 0, none⟩) 1 1, .slice none 0 0] 22)
            rw [World.size_alloc] at this
            exact this
          have L5 := lists3 hl5 (HT.out _ b5) (elist_one (e_al hq4 _)) (HD.out _ b5)
          have hx4 : (w3.drew.alloc (entRow eb ek ev em ez eo)).heap[w.heap.size]? = some (entRow eb ek ev em ez eo) := e_al (show w3.drew.heap[w.heap.size]? = some (entRow eb ek ev em ez eo) from hx3) _
          have hr4 : (w3.drew.alloc (entRow eb ek ev em ez eo)).heap[w.heap.size + 1]? = some (entRow 0 0 0 0 0 0) := e_al (show w3.drew.heap[w.heap.size + 1]? = some (entRow 0 0 0 0 0 0) from hr3) _
          have hx5 := e_al hx4 (.cells #[.slice none 0 0, .slice (some ⟨w3.heap.size, 0, none⟩) 1 1, .slice none 0 0] 22)
          have hr5 := e_al hr4 (.cells #[.slice none 0 0, .slice (some ⟨w3.heap.size, 0, none⟩) 1 1, .slice none 0 0] 22)
          refine Plan.start (fun W => Six W w.heap.size eb ek ev em ez eo) [(0, true), (1, true), (2, true), (3, true), (5, true), (6, true), (7, true), (10, true), (4, false), (8, false), (9, false), (11, true), (12, false), (13, true)] (by kernel_rfl) (by kernel_rfl) (by kernel_rfl) (by kernel_rfl) (entry_row hx3) ?_
          simp only [List.map_cons, List.map_nil, List.getElem?_toArray, List.getElem?_cons_zero, List.getElem?_cons_succ]
          repeat (first | (refine Plan.take ?_ (by rfl) ?_ ?_; rotate_left; (· rintro w9 ⟨u0, u1, u2, u3, u4, u5⟩; go_simp; (try rw [if_neg (by omega)]); all_goals (with_reducible rfl)); simp only [Act.put, List.setIfInBounds_toArray, List.set_cons_zero, List.set_cons_succ]) | (refine Plan.pass (by rfl) ?_; simp only [Act.put, List.setIfInBounds_toArray, List.set_cons_zero, List.set_cons_succ]))
          refine Plan.make (by rfl) (.slice (some ⟨w3.heap.size, 0, none⟩) 1 1) (w3.drew.alloc (entRow eb ek ev em ez eo)) ?_ (entry_row hx4) ?_
          · go_simp
          simp only [Act.put, List.setIfInBounds_toArray, List.set_cons_zero, List.set_cons_succ]
          refine Plan.make (by rfl) (.slice (some ⟨w3.heap.size + 1, 0, none⟩) 3 3) ((w3.drew.alloc (entRow eb ek ev em ez eo)).alloc (.cells #[.slice none 0 0, .slice (some ⟨w3.heap.size, 0, none⟩) 1 1, .slice none 0 0] 22)) ?_ (entry_row hx5) ?_
          · go_simp
          simp only [Act.put, List.setIfInBounds_toArray, List.set_cons_zero, List.set_cons_succ]
          refine Plan.call (by rfl) 32 _ ?_ (HCC.out _ _ L5) ?_
          · go_simp
          rintro e9 w6 ⟨g6, c6, rfl, hg6, hown6, hb6⟩
          have hx6 := e_on hb6 hx5 (e_lt hx5)
          have hr6 := e_on hb6 hr5 (e_lt hr5)
          have b6 := b5.trans (hb6.mono b5.size)
          have hg6' : w.heap.size + 2 ≤ g6 := Nat.le_trans (by simp only [World.size_alloc]; show w.heap.size + 2 ≤ w3.heap.size + 1 + 1; omega) hg6
          refine ⟨_, rfl, entry_row hx6, ?_⟩
          simp only [Act.put, List.setIfInBounds_toArray, List.set_cons_zero, List.set_cons_succ]
          repeat (first | (refine Plan.take ?_ (by rfl) ?_ ?_; rotate_left; (· rintro w9 ⟨u0, u1, u2, u3, u4, u5⟩; go_simp; (try rw [if_neg (by omega)]); all_goals (with_reducible rfl)); simp only [Act.put, List.setIfInBounds_toArray, List.set_cons_zero, List.set_cons_succ]) | (refine Plan.pass (by rfl) ?_; simp only [Act.put, List.setIfInBounds_toArray, List.set_cons_zero, List.set_cons_succ]))
          refine Plan.store (by rfl) 26 (.tmp 5) (.tmp 38) rfl (w.heap.size + 1) #[.int .i64 0, .int .i64 0, .int .i64 0, .int .i64 0, .int .i64 0, .int .i64 0] rfl rfl 26 _ hr6 entry_info rfl (by simp [Value.oneCell']) (entry_row ((setRow_other _ (w.heap.size + 1) w.heap.size _ (by omega)).trans hx6)) ?_
          simp only [Act.put]
          repeat (first | (refine Plan.take ?_ (by rfl) ?_ ?_; rotate_left; (· rintro w9 ⟨u0, u1, u2, u3, u4, u5⟩; go_simp; (try rw [if_neg (by omega)]); all_goals (with_reducible rfl)); simp only [Act.put, List.setIfInBounds_toArray, List.set_cons_zero, List.set_cons_succ]) | (refine Plan.pass (by rfl) ?_; simp only [Act.put, List.setIfInBounds_toArray, List.set_cons_zero, List.set_cons_succ]))
          refine Plan.ends ?_
          have hown9 := hown6.kept (sm_setRow w6 (w.heap.size + 1) #[.int .i64 0, .int .i64 0, .int .i64 0, .int .i64 0, .int .i64 0, .int .i64 0]) (.inr fun h9 => by have h8 := Option.some.inj (show some g6 = some (w.heap.size + 1) from h9); omega)
          obtain ⟨-, a7, c7, h7, hl7⟩ := owns_ents (F := Plus F w.heap.size) hown9 (fun b h9 => .inr (by have h8 := Option.some.inj (show some g6 = some b from h9); omega))
          cases h7
          clear hown9 hown6 hx6 hx5 hr5 hx4 hr4 hl5 L5 hq4 c0 c1 c2 c3 c4 c5
          go_wp2_with fail
          all_goals exact bodyPost_ret (results_tct (p := 4) (q := 5) (r := 6) rfl _ _ _ _ _ _ _ rfl (setRow_heap _ _ _ _ _ _ hr6) Try.underlying26 rfl entry_info) rfl ⟨_, _, _, rfl, (by rw [HLL.out]; first | exact hl7 | exact EList.to hl7 (by rw [flat3_len]; omega)), below_setRow b6 (show w.heap.size ≤ w.heap.size + 1 by omega) _⟩
        · have HT := Lib.hid (fun W (h : Below w.heap.size w W) => (HLOW.out W h).taken k (by omega))
          have HD := Lib.hid (fun W (h : Below w.heap.size w W) => (HLOW.out W h).dropped k (by omega))
          have hcap := HL.out.cap
          unfold maxLen at hcap
          have hkI : (k : Int) ≤ (len : Int) := by omega
          have hcI : (len : Int) ≤ (cap : Int) := by omega
          have hkc : (k : Int) ≤ (cap : Int) := by omega
          go_enter Try.func19, Try.ntmps19
          generalize hw0 : (w.alloc (entRow eb ek ev em ez eo)).alloc (entRow 0 0 0 0 0 0) = w0 at *
          obtain ⟨c0, c1, c2, c3, c4, c5⟩ := entry_row hx0
          go_wp2_with (first
            | (go_at_call 22; ((with_reducible refine (HV.out _ hA).mono ?_); rintro e9 w1 ⟨rfl, hb1⟩; have hr1 := e_on hb1 hr0 (e_lt hr0); have hx1 := e_on hb1 hx0 (e_lt hx0); have b1 := hA.trans (hb1.mono hA.size); clear c0 c1 c2 c3 c4 c5; obtain ⟨c0, c1, c2, c3, c4, c5⟩ := entry_row hx1))
            | (go_at_call 29; ((with_reducible refine (HE.out _).mono ?_); rintro e9 w2 ⟨rfl, hb2⟩; have hr2 := e_on hb2 hr1 (e_lt hr1); have hx2 := e_on hb2 hx1 (e_lt hx1); have b2 := b1.trans (hb2.mono b1.size); clear c0 c1 c2 c3 c4 c5; obtain ⟨c0, c1, c2, c3, c4, c5⟩ := entry_row hx2))
            | (go_at_call 30; ((with_reducible refine (HI.out _ b2).mono ?_); rintro e9 w3 ⟨rfl, hb3⟩; have hr3 := e_on hb3 hr2 (e_lt hr2); have hx3 := e_on hb3 hx2 (e_lt hx2); have b3 := b2.trans (hb3.mono b2.size); clear c0 c1 c2 c3 c4 c5; obtain ⟨c0, c1, c2, c3, c4, c5⟩ := entry_row hx3; have n3 : w.heap.size + 2 ≤ w3.heap.size := Nat.le_trans (by omega) (Nat.le_trans hb1.size (Nat.le_trans hb2.size hb3.size)))))
          have hq4 : (w3.drew.alloc (entRow eb ek ev em ez eo)).heap[w3.heap.size]? = some (entRow eb ek ev em ez eo) := heap_alloc_new w3.drew (entRow eb ek ev em ez eo)
          have b4 : Below w.heap.size w (w3.drew.alloc (entRow eb ek ev em ez eo)) := b3.drew.alloc b3.size _
          have b5 : Below w.heap.size w ((w3.drew.alloc (entRow eb ek ev em ez eo)).alloc (.cells #[.slice (some x) k cap, .slice (some ⟨w3.heap.size, 0, none⟩) 1 1, .slice (if cap = k then some x else some (x.add (k * 6))) (len - k) (cap - k)] 22)) := b4.alloc b4.size _
          have hl5 : ((w3.drew.alloc (entRow eb ek ev em ez eo)).alloc (.cells #[.slice (some x) k cap, .slice (some ⟨w3.heap.size, 0, none⟩) 1 1, .slice (if cap = k then some x else some (x.add (k * 6))) (len - k) (cap - k)] 22)).heap[w3.heap.size + 1]? = some (.cells #[.slice (some x) k cap, .slice (some ⟨w3.heap.size, 0, none⟩) 1 1, .slice (if cap = k then some x else some (x.add (k * 6))) (len - k) (cap - k)] 22) := by
            have := heap_alloc_new (w3.drew.alloc (entRow eb ek ev em ez eo)) (.cells #[.slice (some x) k cap, .slice (some ⟨w3.heap.size, 0, none⟩) 1 1, .slice (if cap = k then some x else some (x.add (k * 6))) (len - k) (cap - k)] 22)
            rw [World.size_alloc] at this
            exact this
          have L5 := lists3 hl5 (HT.out _ b5) (elist_one (e_al hq4 _)) (HD.out _ b5)
          have hx4 : (w3.drew.alloc (entRow eb ek ev em ez eo)).heap[w.heap.size]? = some (entRow eb ek ev em ez eo) := e_al (show w3.drew.heap[w.heap.size]? = some (entRow eb ek ev em ez eo) from hx3) _
          have hr4 : (w3.drew.alloc (entRow eb ek ev em ez eo)).heap[w.heap.size + 1]? = some (entRow 0 0 0 0 0 0) := e_al (show w3.drew.heap[w.heap.size + 1]? = some (entRow 0 0 0 0 0 0) from hr3) _
          have hx5 := e_al hx4 (.cells #[.slice (some x) k cap, .slice (some ⟨w3.heap.size, 0, none⟩) 1 1, .slice (if cap = k then some x else some (x.add (k * 6))) (len - k) (cap - k)] 22)
          have hr5 := e_al hr4 (.cells #[.slice (some x) k cap, .slice (some ⟨w3.heap.size, 0, none⟩) 1 1, .slice (if cap = k then some x else some (x.add (k * 6))) (len - k) (cap - k)] 22)
          refine Plan.start (fun W => Six W w.heap.size eb ek ev em ez eo) [(0, true), (1, true), (2, true), (3, true), (5, true), (6, true), (7, true), (10, true), (4, false), (8, false), (9, false), (11, true), (12, false), (13, true)] (by kernel_rfl) (by kernel_rfl) (by kernel_rfl) (by kernel_rfl) (entry_row hx3) ?_
          simp only [List.map_cons, List.map_nil, List.getElem?_toArray, List.getElem?_cons_zero, List.getElem?_cons_succ]
          repeat (first | (refine Plan.take ?_ (by rfl) ?_ ?_; rotate_left; (· rintro w9 ⟨u0, u1, u2, u3, u4, u5⟩; go_simp; (try rw [if_neg (by omega)]); all_goals (with_reducible rfl)); simp only [Act.put, List.setIfInBounds_toArray, List.set_cons_zero, List.set_cons_succ]) | (refine Plan.pass (by rfl) ?_; simp only [Act.put, List.setIfInBounds_toArray, List.set_cons_zero, List.set_cons_succ]))
          refine Plan.make (by rfl) (.slice (some ⟨w3.heap.size, 0, none⟩) 1 1) (w3.drew.alloc (entRow eb ek ev em ez eo)) ?_ (entry_row hx4) ?_
          · go_simp
          simp only [Act.put, List.setIfInBounds_toArray, List.set_cons_zero, List.set_cons_succ]
          refine Plan.make (by rfl) (.slice (some ⟨w3.heap.size + 1, 0, none⟩) 3 3) ((w3.drew.alloc (entRow eb ek ev em ez eo)).alloc (.cells #[.slice (some x) k cap, .slice (some ⟨w3.heap.size, 0, none⟩) 1 1, .slice (if cap = k then some x else some (x.add (k * 6))) (len - k) (cap - k)] 22)) ?_ (entry_row hx5) ?_
          · go_simp
          simp only [Act.put, List.setIfInBounds_toArray, List.set_cons_zero, List.set_cons_succ]
          refine Plan.call (by rfl) 32 _ ?_ (HCC.out _ _ L5) ?_
          · go_simp
          rintro e9 w6 ⟨g6, c6, rfl, hg6, hown6, hb6⟩
          have hx6 := e_on hb6 hx5 (e_lt hx5)
          have hr6 := e_on hb6 hr5 (e_lt hr5)
          have b6 := b5.trans (hb6.mono b5.size)
          have hg6' : w.heap.size + 2 ≤ g6 := Nat.le_trans (by simp only [World.size_alloc]; show w.heap.size + 2 ≤ w3.heap.size + 1 + 1; omega) hg6
          refine ⟨_, rfl, entry_row hx6, ?_⟩
          simp only [Act.put, List.setIfInBounds_toArray, List.set_cons_zero, List.set_cons_succ]
          repeat (first | (refine Plan.take ?_ (by rfl) ?_ ?_; rotate_left; (· rintro w9 ⟨u0, u1, u2, u3, u4, u5⟩; go_simp; (try rw [if_neg (by omega)]); all_goals (with_reducible rfl)); simp only [Act.put, List.setIfInBounds_toArray, List.set_cons_zero, List.set_cons_succ]) | (refine Plan.pass (by rfl) ?_; simp only [Act.put, List.setIfInBounds_toArray, List.set_cons_zero, List.set_cons_succ]))
          refine Plan.store (by rfl) 26 (.tmp 5) (.tmp 38) rfl (w.heap.size + 1) #[.int .i64 0, .int .i64 0, .int .i64 0, .int .i64 0, .int .i64 0, .int .i64 0] rfl rfl 26 _ hr6 entry_info rfl (by simp [Value.oneCell']) (entry_row ((setRow_other _ (w.heap.size + 1) w.heap.size _ (by omega)).trans hx6)) ?_
          simp only [Act.put]
          repeat (first | (refine Plan.take ?_ (by rfl) ?_ ?_; rotate_left; (· rintro w9 ⟨u0, u1, u2, u3, u4, u5⟩; go_simp; (try rw [if_neg (by omega)]); all_goals (with_reducible rfl)); simp only [Act.put, List.setIfInBounds_toArray, List.set_cons_zero, List.set_cons_succ]) | (refine Plan.pass (by rfl) ?_; simp only [Act.put, List.setIfInBounds_toArray, List.set_cons_zero, List.set_cons_succ]))
          refine Plan.ends ?_
          have hown9 := hown6.kept (sm_setRow w6 (w.heap.size + 1) #[.int .i64 0, .int .i64 0, .int .i64 0, .int .i64 0, .int .i64 0, .int .i64 0]) (.inr fun h9 => by have h8 := Option.some.inj (show some g6 = some (w.heap.size + 1) from h9); omega)
          obtain ⟨-, a7, c7, h7, hl7⟩ := owns_ents (F := Plus F w.heap.size) hown9 (fun b h9 => .inr (by have h8 := Option.some.inj (show some g6 = some b from h9); omega))
          cases h7
          clear hown9 hown6 hx6 hx5 hr5 hx4 hr4 hl5 L5 hq4 c0 c1 c2 c3 c4 c5
          go_wp2_with fail
          all_goals exact bodyPost_ret (results_tct (p := 4) (q := 5) (r := 6) rfl _ _ _ _ _ _ _ rfl (setRow_heap _ _ _ _ _ _ hr6) Try.underlying26 rfl entry_info) rfl ⟨_, _, _, rfl, (by rw [HLL.out]; first | exact hl7 | exact EList.to hl7 (by rw [flat3_len]; omega)), below_setRow b6 (show w.heap.size ≤ w.heap.size + 1 by omega) _⟩
      | some y =>
        have hyb := look_block hlk
        have hat := place_some hasc hlk
        have hin := place_in hasc hlk
        rw [hlen] at hin
        rw [hlk] at HI
        have hc := fun W (h : Below w.heap.size w W) => (show ∃ x, a = some x ∧ EntAt W x (place L e.block) y from by
          obtain ⟨x, e', rfl, he', h'⟩ := (hlow W h).ent (place L e.block) hin
          rw [hat] at he'
          obtain rfl := Option.some.inj he'
          exact ⟨x, rfl, h'⟩)
        obtain ⟨x, rfl, -⟩ := hc w (Below.refl _ _)
        have HY := Lib.hid (fun W (h : Below w.heap.size w W) => (show EntAt W x (place L e.block) y from by
          obtain ⟨x', hx', h'⟩ := hc W h
          obtain rfl := Option.some.inj hx'
          exact h'))
        clear hc
        by_cases hvv : e.version ≤ y.version
        · obtain ⟨r1, r2, r3⟩ := inst_c hva hok hlk hvv
          rw [r1, r2, r3]
          clear r1 r2 r3 hva hok hlk hasc hat hyb hlow
          generalize hkk : place L e.block = k at *
          have hkI : (k : Int) < (len : Int) := by omega
          obtain ⟨yb, yk, yv, ym, yz, yo⟩ := y
          obtain ⟨eb, ek, ev, em, ez, eo⟩ := e
          try simp only at HV HE hA hr0 hx0 hs0 HI HY hvv
          clear hkk
          go_enter Try.func19, Try.ntmps19
          generalize hw0 : (w.alloc (entRow eb ek ev em ez eo)).alloc (entRow 0 0 0 0 0 0) = w0 at *
          obtain ⟨c0, c1, c2, c3, c4, c5⟩ := entry_row hx0
          go_wp2_with (first
            | (go_at_call 22; ((with_reducible refine (HV.out _ hA).mono ?_); rintro e9 w1 ⟨rfl, hb1⟩; have hr1 := e_on hb1 hr0 (e_lt hr0); have hx1 := e_on hb1 hx0 (e_lt hx0); have b1 := hA.trans (hb1.mono hA.size); clear c0 c1 c2 c3 c4 c5; obtain ⟨c0, c1, c2, c3, c4, c5⟩ := entry_row hx1))
            | (go_at_call 29; ((with_reducible refine (HE.out _).mono ?_); rintro e9 w2 ⟨rfl, hb2⟩; have hr2 := e_on hb2 hr1 (e_lt hr1); have hx2 := e_on hb2 hx1 (e_lt hx1); have b2 := b1.trans (hb2.mono b1.size); clear c0 c1 c2 c3 c4 c5; obtain ⟨c0, c1, c2, c3, c4, c5⟩ := entry_row hx2))
            | (go_at_call 30; ((with_reducible refine (HI.out _ b2).mono ?_); rintro e9 w3 ⟨rfl, hb3⟩; have hr3 := e_on hb3 hr2 (e_lt hr2); have hx3 := e_on hb3 hx2 (e_lt hx2); have b3 := b2.trans (hb3.mono b2.size); clear c0 c1 c2 c3 c4 c5; obtain ⟨c0, c1, c2, c3, c4, c5⟩ := entry_row hx3; have hr4 := e_al hr3 (entRow yb yk yv ym yz yo); have hx4 := e_al hx3 (entRow yb yk yv ym yz yo); have ho4 := heap_alloc_new w3 (entRow yb yk yv ym yz yo); have b4 := b3.alloc b3.size (entRow yb yk yv ym yz yo); have n3 : w.heap.size + 2 ≤ w3.heap.size := Nat.le_trans (by omega) (Nat.le_trans hb1.size (Nat.le_trans hb2.size hb3.size)); obtain ⟨y0, y1, y2, y3, y4, y5⟩ := HY.out _ b3; clear c0 c1 c2 c3 c4 c5; obtain ⟨c0, c1, c2, c3, c4, c5⟩ := entry_row hx4; obtain ⟨o0, o1, o2, o3, o4, o5⟩ := entry_row ho4)))
          refine Plan.start (fun W => Six W w3.heap.size yb yk yv ym yz yo) [(0, true), (1, true), (2, true), (3, false), (4, true)] (by kernel_rfl) (by kernel_rfl) (by kernel_rfl) (by kernel_rfl) (entry_row ho4) ?_
          simp only [List.map_cons, List.map_nil, List.getElem?_toArray, List.getElem?_cons_zero, List.getElem?_cons_succ]
          repeat (first | (refine Plan.take ?_ (by rfl) ?_ ?_; rotate_left; (· rintro w9 ⟨u0, u1, u2, u3, u4, u5⟩; go_simp; (try rw [if_neg (by omega)]); all_goals (with_reducible rfl)); simp only [Act.put, List.setIfInBounds_toArray, List.set_cons_zero, List.set_cons_succ]) | (refine Plan.pass (by rfl) ?_; simp only [Act.put, List.setIfInBounds_toArray, List.set_cons_zero, List.set_cons_succ]))
          refine Plan.store (by rfl) 26 (.tmp 5) (.tmp 49) rfl (w.heap.size + 1) #[.int .i64 yb, .int .i64 yk, .int .i64 yv, .int .i64 ym, .int .i64 yz, .int .i64 yo] rfl rfl 26 _ (show (w3.alloc (entRow yb yk yv ym yz yo)).drew.heap[w.heap.size + 1]? = _ from hr4) entry_info rfl (by simp [Value.oneCell']) (entry_row ((setRow_other _ (w.heap.size + 1) w3.heap.size _ (by omega)).trans (show (w3.alloc (entRow yb yk yv ym yz yo)).drew.heap[w3.heap.size]? = _ from ho4))) ?_
          simp only [Act.put]
          repeat (first | (refine Plan.take ?_ (by rfl) ?_ ?_; rotate_left; (· rintro w9 ⟨u0, u1, u2, u3, u4, u5⟩; go_simp; (try rw [if_neg (by omega)]); all_goals (with_reducible rfl)); simp only [Act.put, List.setIfInBounds_toArray, List.set_cons_zero, List.set_cons_succ]) | (refine Plan.pass (by rfl) ?_; simp only [Act.put, List.setIfInBounds_toArray, List.set_cons_zero, List.set_cons_succ]))
          refine Plan.ends ?_
          have hl9 := HEND.out _ b4.drew #[.int .i64 yb, .int .i64 yk, .int .i64 yv, .int .i64 ym, .int .i64 yz, .int .i64 yo]
          have b9 := below_setRow b4.drew (show w.heap.size ≤ w.heap.size + 1 by omega) #[.int .i64 yb, .int .i64 yk, .int .i64 yv, .int .i64 ym, .int .i64 yz, .int .i64 yo]
          have hr9 := setRow_heap (w3.alloc (entRow yb yk yv ym yz yo)).drew (w.heap.size + 1) _ #[.int .i64 yb, .int .i64 yk, .int .i64 yv, .int .i64 ym, .int .i64 yz, .int .i64 yo] _ _ (show (w3.alloc (entRow yb yk yv ym yz yo)).drew.heap[w.heap.size + 1]? = _ from hr4)
          generalize (w3.alloc (entRow yb yk yv ym yz yo)).drew.setRow (w.heap.size + 1) #[.int .i64 yb, .int .i64 yk, .int .i64 yv, .int .i64 ym, .int .i64 yz, .int .i64 yo] = w9 at *
          clear o0 o1 o2 o3 o4 o5 c0 c1 c2 c3 c4 c5 y0 y1 y2 y3 y4 y5
          go_wp2_with fail
          exact bodyPost_ret (results_tct (p := 4) (q := 5) (r := 6) rfl _ _ _ _ _ _ _ rfl hr9 Try.underlying26 rfl entry_info) rfl ⟨_, _, _, rfl, hl9, b9⟩
        · have hset : installL L e = L.set (place L e.block) e := by
            rw [(inst_e hva hok hlk (by omega)).1, List.append_assoc, List.singleton_append, ins_over e y hlk hasc, ins_set e y hlk hasc]
          obtain ⟨-, r2, r3⟩ := inst_e hva hok hlk (by omega)
          rw [r2, r3]
          generalize installL L e = LL at hset ⊢
          have HW := Lib.hid (fun W (h : Below w.heap.size w W) => with_any _ L e x len cap (place L e.block) W ((HL.out.cut).on (Same.below h)) hin (by omega))
          unfold ListPost at HW
          have HLL := Lib.hid hset
          clear r2 r3 hva hok hlk hasc hat hyb hlow HEND hset
          generalize hkk : place L e.block = k at *
          have hkI : (k : Int) < (len : Int) := by omega
          obtain ⟨yb, yk, yv, ym, yz, yo⟩ := y
          obtain ⟨eb, ek, ev, em, ez, eo⟩ := e
          try simp only at HV HE hA hr0 hx0 hs0 HI HY HW HLL hvv
          clear hkk
          go_enter Try.func19, Try.ntmps19
          generalize hw0 : (w.alloc (entRow eb ek ev em ez eo)).alloc (entRow 0 0 0 0 0 0) = w0 at *
          obtain ⟨c0, c1, c2, c3, c4, c5⟩ := entry_row hx0
          go_wp2_with (first
            | (go_at_call 22; ((with_reducible refine (HV.out _ hA).mono ?_); rintro e9 w1 ⟨rfl, hb1⟩; have hr1 := e_on hb1 hr0 (e_lt hr0); have hx1 := e_on hb1 hx0 (e_lt hx0); have b1 := hA.trans (hb1.mono hA.size); clear c0 c1 c2 c3 c4 c5; obtain ⟨c0, c1, c2, c3, c4, c5⟩ := entry_row hx1))
            | (go_at_call 29; ((with_reducible refine (HE.out _).mono ?_); rintro e9 w2 ⟨rfl, hb2⟩; have hr2 := e_on hb2 hr1 (e_lt hr1); have hx2 := e_on hb2 hx1 (e_lt hx1); have b2 := b1.trans (hb2.mono b1.size); clear c0 c1 c2 c3 c4 c5; obtain ⟨c0, c1, c2, c3, c4, c5⟩ := entry_row hx2))
            | (go_at_call 30; ((with_reducible refine (HI.out _ b2).mono ?_); rintro e9 w3 ⟨rfl, hb3⟩; have hr3 := e_on hb3 hr2 (e_lt hr2); have hx3 := e_on hb3 hx2 (e_lt hx2); have b3 := b2.trans (hb3.mono b2.size); clear c0 c1 c2 c3 c4 c5; obtain ⟨c0, c1, c2, c3, c4, c5⟩ := entry_row hx3; have hr4 := e_al hr3 (entRow yb yk yv ym yz yo); have hx4 := e_al hx3 (entRow yb yk yv ym yz yo); have ho4 := heap_alloc_new w3 (entRow yb yk yv ym yz yo); have b4 := b3.alloc b3.size (entRow yb yk yv ym yz yo); have n3 : w.heap.size + 2 ≤ w3.heap.size := Nat.le_trans (by omega) (Nat.le_trans hb1.size (Nat.le_trans hb2.size hb3.size)); obtain ⟨y0, y1, y2, y3, y4, y5⟩ := HY.out _ b3; clear c0 c1 c2 c3 c4 c5; obtain ⟨c0, c1, c2, c3, c4, c5⟩ := entry_row hx4; obtain ⟨o0, o1, o2, o3, o4, o5⟩ := entry_row ho4)))
          refine Plan.start (fun W => Six W w.heap.size eb ek ev em ez eo ∧ Six W w3.heap.size yb yk yv ym yz yo) [(0, true), (1, true), (2, true), (4, true), (3, false), (5, true), (6, false), (7, true)] (by kernel_rfl) (by kernel_rfl) (by kernel_rfl) (by kernel_rfl) ⟨entry_row hx4, entry_row ho4⟩ ?_
          simp only [List.map_cons, List.map_nil, List.getElem?_toArray, List.getElem?_cons_zero, List.getElem?_cons_succ]
          repeat (first | (refine Plan.take ?_ (by rfl) ?_ ?_; rotate_left; (· rintro w9 ⟨⟨u0, u1, u2, u3, u4, u5⟩, ⟨v0, v1, v2, v3, v4, v5⟩⟩; go_simp; (try rw [if_neg (by omega)]); all_goals (with_reducible rfl)); simp only [Act.put, List.setIfInBounds_toArray, List.set_cons_zero, List.set_cons_succ]) | (refine Plan.pass (by rfl) ?_; simp only [Act.put, List.setIfInBounds_toArray, List.set_cons_zero, List.set_cons_succ]))
          have b4' : Below w.heap.size w (w3.alloc (entRow yb yk yv ym yz yo)).drew := b4.drew
          refine Plan.call (by rfl) 33 _ ?_ (HW.out _ b4') ?_
          · go_simp
          rintro e9 w6 ⟨a6, n6, c6, rfl, hl6, hb6⟩
          have hx6 := e_on hb6 (show (w3.alloc (entRow yb yk yv ym yz yo)).drew.heap[w.heap.size]? = _ from hx4) (e_lt hx4)
          have ho6 := e_on hb6 (show (w3.alloc (entRow yb yk yv ym yz yo)).drew.heap[w3.heap.size]? = _ from ho4) (e_lt ho4)
          have hr6 := e_on hb6 (show (w3.alloc (entRow yb yk yv ym yz yo)).drew.heap[w.heap.size + 1]? = _ from hr4) (e_lt hr4)
          have b6 := b4'.trans (hb6.mono b4'.size)
          refine ⟨_, rfl, ⟨entry_row hx6, entry_row ho6⟩, ?_⟩
          simp only [Act.put, List.setIfInBounds_toArray, List.set_cons_zero, List.set_cons_succ]
          repeat (first | (refine Plan.take ?_ (by rfl) ?_ ?_; rotate_left; (· rintro w9 ⟨⟨u0, u1, u2, u3, u4, u5⟩, ⟨v0, v1, v2, v3, v4, v5⟩⟩; go_simp; (try rw [if_neg (by omega)]); all_goals (with_reducible rfl)); simp only [Act.put, List.setIfInBounds_toArray, List.set_cons_zero, List.set_cons_succ]) | (refine Plan.pass (by rfl) ?_; simp only [Act.put, List.setIfInBounds_toArray, List.set_cons_zero, List.set_cons_succ]))
          refine Plan.store (by rfl) 26 (.tmp 5) (.tmp 54) rfl (w.heap.size + 1) #[.int .i64 yb, .int .i64 yk, .int .i64 yv, .int .i64 ym, .int .i64 yz, .int .i64 yo] rfl rfl 26 _ hr6 entry_info rfl (by simp [Value.oneCell']) ⟨entry_row ((setRow_other _ (w.heap.size + 1) w.heap.size _ (by omega)).trans hx6), entry_row ((setRow_other _ (w.heap.size + 1) w3.heap.size _ (by omega)).trans ho6)⟩ ?_
          simp only [Act.put]
          repeat (first | (refine Plan.take ?_ (by rfl) ?_ ?_; rotate_left; (· rintro w9 ⟨⟨u0, u1, u2, u3, u4, u5⟩, ⟨v0, v1, v2, v3, v4, v5⟩⟩; go_simp; (try rw [if_neg (by omega)]); all_goals (with_reducible rfl)); simp only [Act.put, List.setIfInBounds_toArray, List.set_cons_zero, List.set_cons_succ]) | (refine Plan.pass (by rfl) ?_; simp only [Act.put, List.setIfInBounds_toArray, List.set_cons_zero, List.set_cons_succ]))
          refine Plan.ends ?_
          have hl9 := (hl6.on (Same.row (r := w.heap.size + 1) (fun h9 => not_new (by show w.heap.size + 1 < (w3.alloc (entRow yb yk yv ym yz yo)).heap.size; simp only [World.size_alloc]; omega) h9 (by omega)) #[.int .i64 yb, .int .i64 yk, .int .i64 yv, .int .i64 ym, .int .i64 yz, .int .i64 yo])).mono (G := Plus F w.heap.size) (fun b _ h9 => by rcases h9 with h9 | h9; (· exact .inl h9.1); (· exact .inr (Nat.le_trans b4'.size h9)))
          clear o0 o1 o2 o3 o4 o5 c0 c1 c2 c3 c4 c5 y0 y1 y2 y3 y4 y5 hl6
          go_wp2_with fail
          all_goals exact bodyPost_ret (results_tct (p := 4) (q := 5) (r := 6) rfl _ _ _ _ _ _ _ rfl (setRow_heap _ _ _ _ _ _ hr6) Try.underlying26 rfl entry_info) rfl ⟨_, _, _, rfl, (by rw [HLL.out]; exact hl9), below_setRow b6 (show w.heap.size ≤ w.heap.size + 1 by omega) _⟩
end Go.Proofs.Ytbaclgedohpibaa.Ents
