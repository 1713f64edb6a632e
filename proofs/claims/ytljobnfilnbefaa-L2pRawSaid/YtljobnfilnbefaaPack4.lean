/- Texts that belong together, part 4. -/
import Derived.Test.YtljobnfilnbefaaPack3

/- The walk of the document's Install. -/
namespace Go.Proofs.Ytljobnfilnbefaa.Ents
open Go.RowKit Plan EntMath
theorem inst_a {L : List Ent} {e : Ent} (h : validB L = false) : installL L e = [] ∧ installE L e = zeroE ∧ newer L e = false := by
  unfold installL installE newer
  simp [h]
theorem inst_b {L : List Ent} {e : Ent} (h : validB L = true) (h2 : okE e = false) : installL L e = L ∧ installE L e = zeroE ∧ newer L e = false := by
  unfold installL installE newer
  simp [h, h2]
theorem inst_c {L : List Ent} {e x : Ent} (h : validB L = true) (h2 : okE e = true) (hx : lookE L e.block = some x) (hv : e.version ≤ x.version) : installL L e = L ∧ installE L e = x ∧ newer L e = false := by
  have hd : ¬ x.version < e.version := by omega
  unfold installL installE newer
  simp [h, h2, hx, hd]
theorem inst_d {L : List Ent} {e : Ent} (h : validB L = true) (h2 : okE e = true) (hx : lookE L e.block = none) : installL L e = (L.take (place L e.block) ++ [e]) ++ L.drop (place L e.block) ∧ installE L e = zeroE ∧ newer L e = true := by
  have hi := ins_place e hx (valid_iff.1 h).2
  have hn : newer L e = true := by unfold newer; simp [h, h2, hx]
  refine ⟨?_, ?_, hn⟩
  · unfold installL; rw [if_pos h, if_pos hn, ← hi]; simp
  · unfold installE; rw [if_pos ⟨h, h2⟩, hx]; rfl
theorem inst_e {L : List Ent} {e x : Ent} (h : validB L = true) (h2 : okE e = true) (hx : lookE L e.block = some x) (hv : x.version < e.version) : installL L e = (L.take (place L e.block) ++ [e]) ++ L.drop (place L e.block + 1) ∧ installE L e = x ∧ newer L e = true := by
  have hi := ins_over e x hx (valid_iff.1 h).2
  have hn : newer L e = true := by unfold newer; simp [h, h2, hx, hv]
  refine ⟨?_, ?_, hn⟩
  · unfold installL; rw [if_pos h, if_pos hn, ← hi]; simp
  · unfold installE; rw [if_pos ⟨h, h2⟩, hx]; rfl
/-- what a function that gives a list, an entry and a yes or no leaves -/
def InstPost (w : World) (F : Nat → Prop) (L : List Ent) (E : Ent) (B : Bool) (r : Ending) (w' : World) : Prop :=
  ∃ a len cap, r = .returned (.tuple #[.slice a len cap, entV E, .bool B]) ∧ EList w' (Plus F w.heap.size) a len cap L ∧ Below w.heap.size w w'
/-- a plain result, a struct and a plain one -/
theorem results_tct {P : Program} {fn : Func} {p q r : Tmp} {ty : TypeId} (h : fn.results = #[.tmp p, .cell q ty, .tmp r]) (tmps : Array Value) (w : World) (g : Nat) (t : TypeId) (cs : Array Value) (fr : Nat × Nat) (d : TypeDesc)
    (hp : tmps.getD q undef = .pointer (some ⟨g, 0, none⟩)) (hg : w.heap[g]? = some (.cells cs t fr))
    (hu : P.underlying ty = some d) (hd : (match d with | .struct _ | .array _ _ => true | _ => false) = true) (hi : (P.info? ty).map (·.size) = some cs.size) :
    (results fn tmps).run P w = .ok (.tuple #[tmps.getD p undef, .agg cs, tmps.getD r undef]) w := by
  have hp' : tmps[q]?.getD undef = .pointer (some ⟨g, 0, none⟩) := by simpa using hp
  simp [results, h, hp', asAddr, run_loadVar_row w g t ty cs fr d hg hu hd hi]
theorem EList.low {w : World} {F : Nat → Prop} {a : Option Addr} {len cap : Nat} {L : List Ent} (h : EList w F a len cap L) : EList w (fun b => b < w.heap.size) a len cap L := h.mono fun _ hb _ => hb
theorem ents_empty (w : World) {H : Nat} (hH : w.heap.size = H) : (w.alloc (.cells #[] 28)).ownsRow H 28 6 (.slice (some ⟨H, 0, none⟩) 0 0) 0 (ents []) := by
  subst hH
  exact World.ownsRow_made (base := w.heap.size) (e := 28) (size := 6) w #[] 0 (Nat.le_refl _) (by unfold maxLen; decide) rfl
theorem e_owns_drew {w : World} {B sz n : Nat} {t : TypeId} {v : Value} {xs : List Value} (h : w.ownsRow B t sz v n xs) : w.drew.ownsRow B t sz v n xs := by
  refine h.kept (row := none) ⟨rfl, rfl, rfl, Nat.le_refl _, fun _ _ _ => rfl⟩ ?_
  cases v.ownBlock <;> simp
theorem sm_setRow (w : World) (x : Nat) (cs : Array Value) : w.grownBy (w.setRow x cs) (some x) :=
  ⟨rfl, rfl, rfl, Nat.le_of_eq (by simp [World.setRow]), fun i _ hne => setRow_other w x i cs (fun e => hne (by rw [e]))⟩
theorem EList.taken {w : World} {F : Nat → Prop} {a : Option Addr} {len cap : Nat} {L : List Ent} (h : EList w F a len cap L) (k : Nat) (hk : k ≤ len) : EList w F a k cap (L.take k) := by
  have hlen := h.length
  rcases h with ⟨h1, rfl, h3, rfl⟩ | ⟨x, h1, h2, h3, h4, h5, h6, h7⟩
  · exact .inl ⟨h1, by omega, h3, by simp⟩
  · refine .inr ⟨x, h1, by omega, h3, by rw [List.length_take]; omega, h5, h6, fun j u hu => h7 j u ?_⟩
    rw [ents_take] at hu
    have hj := (List.getElem?_eq_some_iff.1 hu).1
    rw [List.length_take] at hj
    rwa [List.getElem?_take, if_pos (by omega)] at hu
theorem EList.dropped {w : World} {F : Nat → Prop} {x : Addr} {len cap : Nat} {L : List Ent} (h : EList w F (some x) len cap L) (k : Nat) (hk : k ≤ len) : EList w F (if cap = k then some x else some (x.add (k * 6))) (len - k) (cap - k) (L.drop k) := by
  have hlen := h.length
  rcases h with ⟨_, rfl, rfl, rfl⟩ | ⟨y, h1, h2, h3, h4, h5, h6, h7⟩
  · obtain rfl : k = 0 := by omega
    rw [if_pos rfl]
    exact .inl ⟨trivial, rfl, rfl, rfl⟩
  · obtain rfl := Option.some.inj h1
    by_cases hc : cap = k
    · rw [if_pos hc]
      refine .inr ⟨x, rfl, by omega, by omega, by rw [List.length_drop]; omega, h5, h6, fun j u hu => ?_⟩
      rw [List.drop_of_length_le (by omega)] at hu
      simp [ents] at hu
    · rw [if_neg hc]
      refine .inr ⟨_, rfl, by omega, by omega, by rw [List.length_drop]; omega, by rw [ent_add_block]; exact h5, by rw [ent_add_block]; exact h6, fun j u hu => ?_⟩
      rw [ents_drop, List.getElem?_drop] at hu
      rw [Addr.add_add]
      exact h7 _ u hu
set_option maxHeartbeats 4000000 in
set_option maxRecDepth 20000 in
theorem refInstall_any (F : Nat → Prop) (L : List Ent) (e : Ent) (a : Option Addr) (len cap : Nat) (w : World) (hF : ∀ b, F b → b < w.heap.size) (hl : EList w F a len cap L) (hm : len ≤ 900000) :
    Calls Try.prog 36 #[.slice a len cap, entV e] w (InstPost w F (installL L e) (installE L e) (newer L e)) := by
  have hlen := hl.length
  have hA := ((Below.refl w.heap.size w).alloc (Nat.le_refl _) (entRow e.block e.kind e.version e.move e.zone e.offset)).alloc (by simp) (entRow 0 0 0 0 0 0)
  have hr0 := heap_second w (entRow e.block e.kind e.version e.move e.zone e.offset) (entRow 0 0 0 0 0 0)
  have hx0 := heap_first w (entRow e.block e.kind e.version e.move e.zone e.offset) (entRow 0 0 0 0 0 0)
  have hs0 : ((w.alloc (entRow e.block e.kind e.version e.move e.zone e.offset)).alloc (entRow 0 0 0 0 0 0)).heap.size = w.heap.size + 2 := by simp
  have hlow := fun W (h : Below w.heap.size w W) => hl.low.on (Same.low h)
  have hv := fun W h => refValid_any _ L a len cap W (hlow W h)
  have he := fun W => refEntry_any e W
  have hp := fun W h => refPlace_any _ L e.block a len cap W (hlow W h)
  have hfi := fun W h => refFind_any _ L e.block a len cap W (hlow W h)
  have hple := place_le L e.block
  rw [hlen] at hple
  have HV := Lib.hid hv
  have HE := Lib.hid he
  have HP := Lib.hid hp
  have HFI := Lib.hid hfi
  have HLOW := Lib.hid hlow
  have HL := Lib.hid hl
  have HF := Lib.hid hF
  clear hv he hp hfi hlow hF
  have hend := fun W (h : Below w.heap.size w W) (cs : Array Value) => (show EList (W.setRow (w.heap.size + 1) cs) (Plus F w.heap.size) a len cap L from
    ((hl.cut.on (Same.below (w' := W) ⟨h.os, h.tape, h.output, h.size, h.block⟩)).on (Same.row (r := w.heap.size + 1) (fun h9 => by have := h9.2; omega) cs)).mono (fun b _ h => .inl h.1))
  have HEND := Lib.hid hend
  clear hend hl
  cases hva : validB L
  · obtain ⟨r1, r2, r3⟩ := inst_a (e := e) hva
    rw [r1, r2, r3]
    rw [hva] at HV
    clear r1 r2 r3 hva
    obtain ⟨eb, ek, ev, em, ez, eo⟩ := e
    try simp only at HV HE HP HFI hA hr0 hx0 hs0
    go_enter Try.func36, Try.ntmps36
    generalize hw0 : (w.alloc (entRow eb ek ev em ez eo)).alloc (entRow 0 0 0 0 0 0) = w0 at *
    go_wp2_with (first
      | (go_at_call 50; ((with_reducible refine (HV.out _ hA).mono ?_); rintro e9 w1 ⟨rfl, hb1⟩; have hr1 := e_on hb1 hr0 (e_lt hr0); have hx1 := e_on hb1 hx0 (e_lt hx0); have b1 := hA.trans (hb1.mono hA.size)))
      | ((with_reducible refine Plan.store_lit 28 (.tmp 5) _ (w.heap.size + 1) ?_ hr1 ?_ ?_ ?_ ?_ ?_ ?_); rotate_left; (· rfl); (· rfl); (· exact entry_info); (· rfl); (· simp [Value.oneCell']); simp only [Act.put]))
    exact bodyPost_ret (results_tct (p := 4) (q := 5) (r := 6) rfl _ _ _ _ _ _ _ rfl (setRow_heap _ _ _ _ _ _ hr1) Try.underlying28 rfl entry_info) rfl ⟨_, _, _, rfl, EList.nil _ _, below_setRow b1 (show w.heap.size ≤ w.heap.size + 1 by omega) _⟩
  · rw [hva] at HV
    cases hok : okE e
    · obtain ⟨r1, r2, r3⟩ := inst_b hva hok
      rw [r1, r2, r3]
      rw [hok] at HE
      clear r1 r2 r3 hva hok
      obtain ⟨eb, ek, ev, em, ez, eo⟩ := e
      try simp only at HV HE HP HFI hA hr0 hx0 hs0
      go_enter Try.func36, Try.ntmps36
      generalize hw0 : (w.alloc (entRow eb ek ev em ez eo)).alloc (entRow 0 0 0 0 0 0) = w0 at *
      obtain ⟨c0, c1, c2, c3, c4, c5⟩ := entry_row hx0
      go_wp2_with (first
        | (go_at_call 50; ((with_reducible refine (HV.out _ hA).mono ?_); rintro e9 w1 ⟨rfl, hb1⟩; have hr1 := e_on hb1 hr0 (e_lt hr0); have hx1 := e_on hb1 hx0 (e_lt hx0); have b1 := hA.trans (hb1.mono hA.size); clear c0 c1 c2 c3 c4 c5; obtain ⟨c0, c1, c2, c3, c4, c5⟩ := entry_row hx1))
        | (go_at_call 55; ((with_reducible refine (HE.out _).mono ?_); rintro e9 w2 ⟨rfl, hb2⟩; have hr2 := e_on hb2 hr1 (e_lt hr1); have hx2 := e_on hb2 hx1 (e_lt hx1); have b2 := b1.trans (hb2.mono b1.size); clear c0 c1 c2 c3 c4 c5; obtain ⟨c0, c1, c2, c3, c4, c5⟩ := entry_row hx2))
        | ((with_reducible refine Plan.store_lit 28 (.tmp 5) _ (w.heap.size + 1) ?_ hr2 ?_ ?_ ?_ ?_ ?_ ?_); rotate_left; (· rfl); (· rfl); (· exact entry_info); (· rfl); (· simp [Value.oneCell']); simp only [Act.put]))
      exact bodyPost_ret (results_tct (p := 4) (q := 5) (r := 6) rfl _ _ _ _ _ _ _ rfl (setRow_heap _ _ _ _ _ _ hr2) Try.underlying28 rfl entry_info) rfl ⟨_, _, _, rfl, HEND.out _ b2 _, below_setRow b2 (show w.heap.size ≤ w.heap.size + 1 by omega) _⟩
    · rw [hok] at HE
      have hfe : findE L e.block = lookE L e.block := by unfold findE; rw [if_pos hva]
      cases hlk : lookE L e.block with
      | none =>
        obtain ⟨r1, r2, r3⟩ := inst_d hva hok hlk
        rw [r2, r3]
        generalize installL L e = LL at r1 ⊢
        have hf2 : ∀ W (h : Below w.heap.size w W), Calls Try.prog 35 #[.slice a len cap, .int .i64 e.block] W fun r w' => r = .returned (.tuple #[.agg #[.int .i64 0, .int .i64 0, .int .i64 0, .int .i64 0, .int .i64 0, .int .i64 0], .bool false]) ∧ Below W.heap.size W w' := fun W h => by
          have := HFI.out W h
          rwa [findV_none (hfe.trans hlk)] at this
        have HF2 := Lib.hid hf2
        clear r2 r3 hva hok hf2 hfe hlk
        generalize hkk : place L e.block = k at *
        have HLL := Lib.hid r1
        clear r1
        obtain ⟨eb, ek, ev, em, ez, eo⟩ := e
        try simp only at HV HE HP HF2 hA hr0 hx0 hs0 HLL
        clear HFI hkk HEND
        have hkI : (k : Int) ≤ (len : Int) := by omega
        rcases a with _ | x
        · obtain ⟨rfl, rfl, rfl⟩ := HL.out.none
          obtain rfl : k = 0 := by omega
          have HT := Lib.hid (fun W (h : Below w.heap.size w W) => (HLOW.out W h).taken (0) (by omega))
          have hd : ∀ W (h : Below w.heap.size w W), EList W (fun b => b < w.heap.size) none 0 0 ([] : List Ent) := fun W h => HLOW.out W h
          have HD := Lib.hid hd
          clear hd
          go_enter Try.func36, Try.ntmps36
          generalize hw0 : (w.alloc (entRow eb ek ev em ez eo)).alloc (entRow 0 0 0 0 0 0) = w0 at *
          obtain ⟨c0, c1, c2, c3, c4, c5⟩ := entry_row hx0
          go_wp2_with (first
            | (go_at_call 50; ((with_reducible refine (HV.out _ hA).mono ?_); rintro e9 w1 ⟨rfl, hb1⟩; have hr1 := e_on hb1 hr0 (e_lt hr0); have hx1 := e_on hb1 hx0 (e_lt hx0); have b1 := hA.trans (hb1.mono hA.size); clear c0 c1 c2 c3 c4 c5; obtain ⟨c0, c1, c2, c3, c4, c5⟩ := entry_row hx1))
            | (go_at_call 55; ((with_reducible refine (HE.out _).mono ?_); rintro e9 w2 ⟨rfl, hb2⟩; have hr2 := e_on hb2 hr1 (e_lt hr1); have hx2 := e_on hb2 hx1 (e_lt hx1); have b2 := b1.trans (hb2.mono b1.size); clear c0 c1 c2 c3 c4 c5; obtain ⟨c0, c1, c2, c3, c4, c5⟩ := entry_row hx2))
            | (go_at_call 54; ((with_reducible refine (HP.out _ b2).mono ?_); rintro e9 w3 ⟨rfl, hb3⟩; have hr3 := e_on hb3 hr2 (e_lt hr2); have hx3 := e_on hb3 hx2 (e_lt hx2); have b3 := b2.trans (hb3.mono b2.size); clear c0 c1 c2 c3 c4 c5; obtain ⟨c0, c1, c2, c3, c4, c5⟩ := entry_row hx3))
            | (go_at_call 35; ((with_reducible refine (HF2.out _ b3).mono ?_); rintro e9 w4 ⟨rfl, hb4⟩; have hr4 := e_al (e_on hb4 hr3 (e_lt hr3)) (entRow 0 0 0 0 0 0); have hx4 := e_al (e_on hb4 hx3 (e_lt hx3)) (entRow 0 0 0 0 0 0); have ho4 := heap_alloc_new w4 (entRow 0 0 0 0 0 0); have b4 := (b3.trans (hb4.mono b3.size)).alloc (b3.trans (hb4.mono b3.size)).size (entRow 0 0 0 0 0 0); have hwx := e_lt hx4; have hwr := e_lt hr4; have hwo := e_lt ho4; have n4 : w.heap.size + 2 ≤ w4.heap.size := Nat.le_trans (by omega) (Nat.le_trans hb1.size (Nat.le_trans hb2.size (Nat.le_trans hb3.size hb4.size))); clear c0 c1 c2 c3 c4 c5; obtain ⟨c0, c1, c2, c3, c4, c5⟩ := entry_row hx4; obtain ⟨o0, o1, o2, o3, o4, o5⟩ := entry_row ho4))
            | (at_builtin; refine append_ents (F := fun b => b < w.heap.size) rfl (.tmp 41) (.tmp 44) rfl (w4.heap.size + 1) (.slice (some ⟨w4.heap.size + 1, 0, none⟩) 0 0) 0 [] rfl (ents_empty (w4.alloc (entRow 0 0 0 0 0 0)) (World.size_alloc _ _)) none 0 0 (([] : List Ent).take 0) rfl (HT.out _ (b4.alloc b4.size (.cells #[] 28))) (by omega) (by simp) ?_; intro v5 w5 hown5 hgrow5; rw [Nat.zero_add, List.nil_append] at hown5; have hr5 := (hgrow5.block (w.heap.size + 1) (by simp only [World.size_alloc] at *; omega) (fun h9 => by have h8 := Option.some.inj (show some _ = some (w4.heap.size + 1) from h9); omega)).trans (e_al hr4 (.cells #[] 28)); have hx5 := (hgrow5.block w.heap.size (by simp only [World.size_alloc] at *; omega) (fun h9 => by have h8 := Option.some.inj (show some _ = some (w4.heap.size + 1) from h9); omega)).trans (e_al hx4 (.cells #[] 28)); have ho5 := (hgrow5.block w4.heap.size (by simp only [World.size_alloc] at *; omega) (fun h9 => by have h8 := Option.some.inj (show some _ = some (w4.heap.size + 1) from h9); omega)).trans (e_al ho4 (.cells #[] 28)); have b5 := (b4.alloc b4.size (.cells #[] 28)).grown hgrow5 (b4.alloc b4.size (.cells #[] 28)).size (fun z9 h9 => by have h8 := Option.some.inj (show some (w4.heap.size + 1) = some z9 from h9); omega); have n5 := e_lt ho5; clear c0 c1 c2 c3 c4 c5; obtain ⟨c0, c1, c2, c3, c4, c5⟩ := entry_row hx5)
            | (at_builtin; refine append_ents (F := fun _ => True) rfl (.tmp 46) (.tmp 48) rfl (w4.heap.size + 1) v5 0 (([] : List Ent).take 0) rfl (hown5.alloc _) (some ⟨w5.heap.size, 0, none⟩) 1 1 [⟨eb, ek, ev, em, ez, eo⟩] rfl (elist_one (heap_alloc_new w5 (entRow eb ek ev em ez eo))) (by omega) (by simp only [World.size_alloc]; omega) ?_; intro v6 w6 hown6 hgrow6; have hr6 := (hgrow6.block (w.heap.size + 1) (by simp only [World.size_alloc]; omega) (fun h9 => by have := (hown5.lt _ h9.symm).1; omega)).trans (e_al hr5 (entRow eb ek ev em ez eo)); have ho6 := (hgrow6.block w4.heap.size (by simp only [World.size_alloc]; omega) (fun h9 => by have := (hown5.lt _ h9.symm).1; omega)).trans (e_al ho5 (entRow eb ek ev em ez eo)); have b6 := (b5.alloc b5.size (entRow eb ek ev em ez eo)).grown hgrow6 (b5.alloc b5.size (entRow eb ek ev em ez eo)).size (fun z9 h9 => by have := (hown5.lt _ h9).1; omega); have n6 := e_lt ho6; clear c0 c1 c2 c3 c4 c5 o0 o1 o2 o3 o4 o5; obtain ⟨o0, o1, o2, o3, o4, o5⟩ := entry_row ho6))
          refine Plan.start (fun W => W.cell? ⟨w4.heap.size, 0, none⟩ = some (.int .i64 0) ∧ W.cell? ⟨w4.heap.size, 1, none⟩ = some (.int .i64 0) ∧ W.cell? ⟨w4.heap.size, 2, none⟩ = some (.int .i64 0) ∧ W.cell? ⟨w4.heap.size, 3, none⟩ = some (.int .i64 0) ∧ W.cell? ⟨w4.heap.size, 4, none⟩ = some (.int .i64 0) ∧ W.cell? ⟨w4.heap.size, 5, none⟩ = some (.int .i64 0)) [(0, true), (1, true), (2, true), (3, true), (5, true), (4, false), (6, true), (7, false), (8, true)] (by kernel_rfl) (by kernel_rfl) (by kernel_rfl) (by kernel_rfl) ⟨o0, o1, o2, o3, o4, o5⟩ ?_
          simp only [List.map_cons, List.map_nil, List.getElem?_toArray, List.getElem?_cons_zero, List.getElem?_cons_succ]
          iterate 3 (refine Plan.take ?_ (by rfl) ?_ ?_; rotate_left; (· rintro w9 ⟨u0, u1, u2, u3, u4, u5⟩; go_simp; all_goals (with_reducible rfl)); simp only [Act.put, List.setIfInBounds_toArray, List.set_cons_zero, List.set_cons_succ])
          refine Plan.take (.slice none 0 0) (by rfl) ?_ ?_
          · rintro w9 -
            go_simp
            all_goals (intro h9; omega)
          simp only [Act.put, List.setIfInBounds_toArray, List.set_cons_zero, List.set_cons_succ]
          refine Plan.take ?_ (by rfl) ?_ ?_
          rotate_left
          · rintro w9 ⟨u0, u1, u2, u3, u4, u5⟩
            go_simp
            all_goals (with_reducible rfl)
          simp only [Act.put, List.setIfInBounds_toArray, List.set_cons_zero, List.set_cons_succ]
          refine Plan.carry (by rfl) (wp_append_ents (F := fun b => b < w.heap.size) (.tmp 53) (.tmp 56) rfl (w4.heap.size + 1) v6 (0 + 1) (([] : List Ent).take 0 ++ [⟨eb, ek, ev, em, ez, eo⟩]) rfl (w := w6.drew) (e_owns_drew hown6) none 0 0 (([] : List Ent).drop (0)) rfl (HD.out _ b6.drew) (by omega) (show w4.heap.size + 1 ≤ w6.heap.size by omega) ?_)
          intro v7 w7 hown7 hgrow7
          have hr7 := (hgrow7.block (w.heap.size + 1) (show w.heap.size + 1 < w6.heap.size by omega) (fun h9 => by have := (hown6.lt _ h9.symm).1; omega)).trans (show w6.drew.heap[w.heap.size + 1]? = _ from hr6)
          have ho7 := (hgrow7.block w4.heap.size (show w4.heap.size < w6.heap.size by omega) (fun h9 => by have := (hown6.lt _ h9.symm).1; omega)).trans (show w6.drew.heap[w4.heap.size]? = _ from ho6)
          have b7 := b6.drew.grown hgrow7 b6.drew.size (fun z9 h9 => by have := (hown6.lt _ h9).1; omega)
          refine ⟨entry_row ho7, ?_⟩
          simp only [Act.put, List.setIfInBounds_toArray, List.set_cons_zero, List.set_cons_succ]
          repeat (first | (refine Plan.take ?_ (by rfl) ?_ ?_; rotate_left; (· rintro w9 ⟨u0, u1, u2, u3, u4, u5⟩; go_simp; (try rw [if_neg (by omega)]); all_goals (with_reducible rfl)); simp only [Act.put, List.setIfInBounds_toArray, List.set_cons_zero, List.set_cons_succ]) | (refine Plan.pass (by rfl) ?_; simp only [Act.put, List.setIfInBounds_toArray, List.set_cons_zero, List.set_cons_succ]))
          refine Plan.store (by rfl) 28 (.tmp 5) (.tmp 58) rfl (w.heap.size + 1) #[.int .i64 0, .int .i64 0, .int .i64 0, .int .i64 0, .int .i64 0, .int .i64 0] rfl rfl 28 _ hr7 entry_info rfl (by simp [Value.oneCell']) (entry_row ((setRow_other _ (w.heap.size + 1) w4.heap.size _ (by omega)).trans ho7)) ?_
          simp only [Act.put]
          repeat (first | (refine Plan.take ?_ (by rfl) ?_ ?_; rotate_left; (· rintro w9 ⟨u0, u1, u2, u3, u4, u5⟩; go_simp; (try rw [if_neg (by omega)]); all_goals (with_reducible rfl)); simp only [Act.put, List.setIfInBounds_toArray, List.set_cons_zero, List.set_cons_succ]) | (refine Plan.pass (by rfl) ?_; simp only [Act.put, List.setIfInBounds_toArray, List.set_cons_zero, List.set_cons_succ]))
          refine Plan.ends ?_
          have hne7 : ∀ b, v7.ownBlock = some b → w4.heap.size + 1 ≤ b := fun b h9 => (hown7.lt _ h9).1
          have hown9 := hown7.kept (sm_setRow w7 (w.heap.size + 1) #[.int .i64 0, .int .i64 0, .int .i64 0, .int .i64 0, .int .i64 0, .int .i64 0]) (.inr fun h9 => by have := hne7 _ h9; omega)
          obtain ⟨-, a7, c7, rfl, hl7⟩ := owns_ents (F := Plus F w.heap.size) hown9 (fun b h9 => .inr (by have := hne7 _ h9; omega))
          clear hown9 hown7 hgrow7 hown6 hgrow6 hown5 hgrow5 ho7 ho6 ho5 ho4 hx5 hx4 hr6 hr5 hr4 o0 o1 o2 o3 o4 o5
          go_wp2_with fail
          all_goals exact bodyPost_ret (results_tct (p := 4) (q := 5) (r := 6) rfl _ _ _ _ _ _ _ rfl (setRow_heap _ _ _ _ _ _ hr7) Try.underlying28 rfl entry_info) rfl ⟨_, _, _, rfl, (by rw [HLL.out]; exact hl7), below_setRow b7 (show w.heap.size ≤ w.heap.size + 1 by omega) _⟩
        · have HCAP := HL.out.cap
          have hkC : k ≤ cap := by have := HCAP.1; omega
          have hkC2 : (k : Int) ≤ (cap : Int) := by omega
          have HT := Lib.hid (fun W (h : Below w.heap.size w W) => (HLOW.out W h).taken (k) (by omega))
          have hd : ∀ W (h : Below w.heap.size w W), EList W (fun b => b < w.heap.size) (if cap = k then some x else some (x.add ((k) * 6))) (len - (k)) (cap - (k)) (L.drop (k)) := fun W h => (HLOW.out W h).dropped (k) (by omega)
          have HD := Lib.hid hd
          clear hd
          go_enter Try.func36, Try.ntmps36
          generalize hw0 : (w.alloc (entRow eb ek ev em ez eo)).alloc (entRow 0 0 0 0 0 0) = w0 at *
          obtain ⟨c0, c1, c2, c3, c4, c5⟩ := entry_row hx0
          go_wp2_with (first
            | (go_at_call 50; ((with_reducible refine (HV.out _ hA).mono ?_); rintro e9 w1 ⟨rfl, hb1⟩; have hr1 := e_on hb1 hr0 (e_lt hr0); have hx1 := e_on hb1 hx0 (e_lt hx0); have b1 := hA.trans (hb1.mono hA.size); clear c0 c1 c2 c3 c4 c5; obtain ⟨c0, c1, c2, c3, c4, c5⟩ := entry_row hx1))
            | (go_at_call 55; ((with_reducible refine (HE.out _).mono ?_); rintro e9 w2 ⟨rfl, hb2⟩; have hr2 := e_on hb2 hr1 (e_lt hr1); have hx2 := e_on hb2 hx1 (e_lt hx1); have b2 := b1.trans (hb2.mono b1.size); clear c0 c1 c2 c3 c4 c5; obtain ⟨c0, c1, c2, c3, c4, c5⟩ := entry_row hx2))
            | (go_at_call 54; ((with_reducible refine (HP.out _ b2).mono ?_); rintro e9 w3 ⟨rfl, hb3⟩; have hr3 := e_on hb3 hr2 (e_lt hr2); have hx3 := e_on hb3 hx2 (e_lt hx2); have b3 := b2.trans (hb3.mono b2.size); clear c0 c1 c2 c3 c4 c5; obtain ⟨c0, c1, c2, c3, c4, c5⟩ := entry_row hx3))
            | (go_at_call 35; ((with_reducible refine (HF2.out _ b3).mono ?_); rintro e9 w4 ⟨rfl, hb4⟩; have hr4 := e_al (e_on hb4 hr3 (e_lt hr3)) (entRow 0 0 0 0 0 0); have hx4 := e_al (e_on hb4 hx3 (e_lt hx3)) (entRow 0 0 0 0 0 0); have ho4 := heap_alloc_new w4 (entRow 0 0 0 0 0 0); have b4 := (b3.trans (hb4.mono b3.size)).alloc (b3.trans (hb4.mono b3.size)).size (entRow 0 0 0 0 0 0); have hwx := e_lt hx4; have hwr := e_lt hr4; have hwo := e_lt ho4; have n4 : w.heap.size + 2 ≤ w4.heap.size := Nat.le_trans (by omega) (Nat.le_trans hb1.size (Nat.le_trans hb2.size (Nat.le_trans hb3.size hb4.size))); clear c0 c1 c2 c3 c4 c5; obtain ⟨c0, c1, c2, c3, c4, c5⟩ := entry_row hx4; obtain ⟨o0, o1, o2, o3, o4, o5⟩ := entry_row ho4))
            | (at_builtin; refine append_ents (F := fun b => b < w.heap.size) rfl (.tmp 41) (.tmp 44) rfl (w4.heap.size + 1) (.slice (some ⟨w4.heap.size + 1, 0, none⟩) 0 0) 0 [] rfl (ents_empty (w4.alloc (entRow 0 0 0 0 0 0)) (World.size_alloc _ _)) (some x) k cap (L.take k) rfl (HT.out _ (b4.alloc b4.size (.cells #[] 28))) (by omega) (by simp) ?_; intro v5 w5 hown5 hgrow5; rw [Nat.zero_add, List.nil_append] at hown5; have hr5 := (hgrow5.block (w.heap.size + 1) (by simp only [World.size_alloc] at *; omega) (fun h9 => by have h8 := Option.some.inj (show some _ = some (w4.heap.size + 1) from h9); omega)).trans (e_al hr4 (.cells #[] 28)); have hx5 := (hgrow5.block w.heap.size (by simp only [World.size_alloc] at *; omega) (fun h9 => by have h8 := Option.some.inj (show some _ = some (w4.heap.size + 1) from h9); omega)).trans (e_al hx4 (.cells #[] 28)); have ho5 := (hgrow5.block w4.heap.size (by simp only [World.size_alloc] at *; omega) (fun h9 => by have h8 := Option.some.inj (show some _ = some (w4.heap.size + 1) from h9); omega)).trans (e_al ho4 (.cells #[] 28)); have b5 := (b4.alloc b4.size (.cells #[] 28)).grown hgrow5 (b4.alloc b4.size (.cells #[] 28)).size (fun z9 h9 => by have h8 := Option.some.inj (show some (w4.heap.size + 1) = some z9 from h9); omega); have n5 := e_lt ho5; clear c0 c1 c2 c3 c4 c5; obtain ⟨c0, c1, c2, c3, c4, c5⟩ := entry_row hx5)
            | (at_builtin; refine append_ents (F := fun _ => True) rfl (.tmp 46) (.tmp 48) rfl (w4.heap.size + 1) v5 k (L.take k) rfl (hown5.alloc _) (some ⟨w5.heap.size, 0, none⟩) 1 1 [⟨eb, ek, ev, em, ez, eo⟩] rfl (elist_one (heap_alloc_new w5 (entRow eb ek ev em ez eo))) (by omega) (by simp only [World.size_alloc]; omega) ?_; intro v6 w6 hown6 hgrow6; have hr6 := (hgrow6.block (w.heap.size + 1) (by simp only [World.size_alloc]; omega) (fun h9 => by have := (hown5.lt _ h9.symm).1; omega)).trans (e_al hr5 (entRow eb ek ev em ez eo)); have ho6 := (hgrow6.block w4.heap.size (by simp only [World.size_alloc]; omega) (fun h9 => by have := (hown5.lt _ h9.symm).1; omega)).trans (e_al ho5 (entRow eb ek ev em ez eo)); have b6 := (b5.alloc b5.size (entRow eb ek ev em ez eo)).grown hgrow6 (b5.alloc b5.size (entRow eb ek ev em ez eo)).size (fun z9 h9 => by have := (hown5.lt _ h9).1; omega); have n6 := e_lt ho6; clear c0 c1 c2 c3 c4 c5 o0 o1 o2 o3 o4 o5; obtain ⟨o0, o1, o2, o3, o4, o5⟩ := entry_row ho6))
          refine Plan.start (fun W => W.cell? ⟨w4.heap.size, 0, none⟩ = some (.int .i64 0) ∧ W.cell? ⟨w4.heap.size, 1, none⟩ = some (.int .i64 0) ∧ W.cell? ⟨w4.heap.size, 2, none⟩ = some (.int .i64 0) ∧ W.cell? ⟨w4.heap.size, 3, none⟩ = some (.int .i64 0) ∧ W.cell? ⟨w4.heap.size, 4, none⟩ = some (.int .i64 0) ∧ W.cell? ⟨w4.heap.size, 5, none⟩ = some (.int .i64 0)) [(0, true), (1, true), (2, true), (3, true), (5, true), (4, false), (6, true), (7, false), (8, true)] (by kernel_rfl) (by kernel_rfl) (by kernel_rfl) (by kernel_rfl) ⟨o0, o1, o2, o3, o4, o5⟩ ?_
          simp only [List.map_cons, List.map_nil, List.getElem?_toArray, List.getElem?_cons_zero, List.getElem?_cons_succ]
          iterate 3 (refine Plan.take ?_ (by rfl) ?_ ?_; rotate_left; (· rintro w9 ⟨u0, u1, u2, u3, u4, u5⟩; go_simp; all_goals (with_reducible rfl)); simp only [Act.put, List.setIfInBounds_toArray, List.set_cons_zero, List.set_cons_succ])
          refine Plan.take (.slice (if cap = k then some x else some (x.add ((k) * 6))) (len - (k)) (cap - (k))) (by rfl) ?_ ?_
          · rintro w9 -
            go_simp
            all_goals (intro h9; omega)
          simp only [Act.put, List.setIfInBounds_toArray, List.set_cons_zero, List.set_cons_succ]
          refine Plan.take ?_ (by rfl) ?_ ?_
          rotate_left
          · rintro w9 ⟨u0, u1, u2, u3, u4, u5⟩
            go_simp
            all_goals (with_reducible rfl)
          simp only [Act.put, List.setIfInBounds_toArray, List.set_cons_zero, List.set_cons_succ]
          refine Plan.carry (by rfl) (wp_append_ents (F := fun b => b < w.heap.size) (.tmp 53) (.tmp 56) rfl (w4.heap.size + 1) v6 (k + 1) (L.take k ++ [⟨eb, ek, ev, em, ez, eo⟩]) rfl (w := w6.drew) (e_owns_drew hown6) (if cap = k then some x else some (x.add ((k) * 6))) (len - (k)) (cap - (k)) (L.drop (k)) rfl (HD.out _ b6.drew) (by omega) (show w4.heap.size + 1 ≤ w6.heap.size by omega) ?_)
          intro v7 w7 hown7 hgrow7
          have hr7 := (hgrow7.block (w.heap.size + 1) (show w.heap.size + 1 < w6.heap.size by omega) (fun h9 => by have := (hown6.lt _ h9.symm).1; omega)).trans (show w6.drew.heap[w.heap.size + 1]? = _ from hr6)
          have ho7 := (hgrow7.block w4.heap.size (show w4.heap.size < w6.heap.size by omega) (fun h9 => by have := (hown6.lt _ h9.symm).1; omega)).trans (show w6.drew.heap[w4.heap.size]? = _ from ho6)
          have b7 := b6.drew.grown hgrow7 b6.drew.size (fun z9 h9 => by have := (hown6.lt _ h9).1; omega)
          refine ⟨entry_row ho7, ?_⟩
          simp only [Act.put, List.setIfInBounds_toArray, List.set_cons_zero, List.set_cons_succ]
          repeat (first | (refine Plan.take ?_ (by rfl) ?_ ?_; rotate_left; (· rintro w9 ⟨u0, u1, u2, u3, u4, u5⟩; go_simp; (try rw [if_neg (by omega)]); all_goals (with_reducible rfl)); simp only [Act.put, List.setIfInBounds_toArray, List.set_cons_zero, List.set_cons_succ]) | (refine Plan.pass (by rfl) ?_; simp only [Act.put, List.setIfInBounds_toArray, List.set_cons_zero, List.set_cons_succ]))
          refine Plan.store (by rfl) 28 (.tmp 5) (.tmp 58) rfl (w.heap.size + 1) #[.int .i64 0, .int .i64 0, .int .i64 0, .int .i64 0, .int .i64 0, .int .i64 0] rfl rfl 28 _ hr7 entry_info rfl (by simp [Value.oneCell']) (entry_row ((setRow_other _ (w.heap.size + 1) w4.heap.size _ (by omega)).trans ho7)) ?_
          simp only [Act.put]
          repeat (first | (refine Plan.take ?_ (by rfl) ?_ ?_; rotate_left; (· rintro w9 ⟨u0, u1, u2, u3, u4, u5⟩; go_simp; (try rw [if_neg (by omega)]); all_goals (with_reducible rfl)); simp only [Act.put, List.setIfInBounds_toArray, List.set_cons_zero, List.set_cons_succ]) | (refine Plan.pass (by rfl) ?_; simp only [Act.put, List.setIfInBounds_toArray, List.set_cons_zero, List.set_cons_succ]))
          refine Plan.ends ?_
          have hne7 : ∀ b, v7.ownBlock = some b → w4.heap.size + 1 ≤ b := fun b h9 => (hown7.lt _ h9).1
          have hown9 := hown7.kept (sm_setRow w7 (w.heap.size + 1) #[.int .i64 0, .int .i64 0, .int .i64 0, .int .i64 0, .int .i64 0, .int .i64 0]) (.inr fun h9 => by have := hne7 _ h9; omega)
          obtain ⟨-, a7, c7, rfl, hl7⟩ := owns_ents (F := Plus F w.heap.size) hown9 (fun b h9 => .inr (by have := hne7 _ h9; omega))
          clear hown9 hown7 hgrow7 hown6 hgrow6 hown5 hgrow5 ho7 ho6 ho5 ho4 hx5 hx4 hr6 hr5 hr4 o0 o1 o2 o3 o4 o5
          go_wp2_with fail
          all_goals exact bodyPost_ret (results_tct (p := 4) (q := 5) (r := 6) rfl _ _ _ _ _ _ _ rfl (setRow_heap _ _ _ _ _ _ hr7) Try.underlying28 rfl entry_info) rfl ⟨_, _, _, rfl, (by rw [HLL.out]; exact hl7), below_setRow b7 (show w.heap.size ≤ w.heap.size + 1 by omega) _⟩
      | some y =>
        have hyb := look_block hlk
        have hf2 : ∀ W (h : Below w.heap.size w W), Calls Try.prog 35 #[.slice a len cap, .int .i64 e.block] W fun r w' => r = .returned (.tuple #[entV y, .bool true]) ∧ Below W.heap.size W w' := fun W h => by
          have := HFI.out W h
          rwa [findV_some (hfe.trans hlk)] at this
        have HF2 := Lib.hid hf2
        have hklt : place L e.block < len := by
          have h1 := look_place (valid_iff.1 hva).2 e.block
          rw [hlk] at h1
          rcases Nat.lt_or_ge (place L e.block) len with h2 | h2
          · exact h2
          · rw [List.getElem?_eq_none (by omega)] at h1; cases h1
        by_cases hvv : e.version ≤ y.version
        · obtain ⟨r1, r2, r3⟩ := inst_c hva hok hlk hvv
          rw [r1, r2, r3]
          clear r1 r2 r3 hva hok hf2 hfe hlk hyb hklt HFI
          generalize hkk : place L e.block = k at *
          obtain ⟨eb, ek, ev, em, ez, eo⟩ := e
          obtain ⟨yb, yk, yv, ym, yz, yo⟩ := y
          try simp only at HV HE HP HF2 hA hr0 hx0 hs0 hvv
          clear hkk
          go_enter Try.func36, Try.ntmps36
          generalize hw0 : (w.alloc (entRow eb ek ev em ez eo)).alloc (entRow 0 0 0 0 0 0) = w0 at *
          obtain ⟨c0, c1, c2, c3, c4, c5⟩ := entry_row hx0
          go_wp2_with (first
            | (go_at_call 50; ((with_reducible refine (HV.out _ hA).mono ?_); rintro e9 w1 ⟨rfl, hb1⟩; have hr1 := e_on hb1 hr0 (e_lt hr0); have hx1 := e_on hb1 hx0 (e_lt hx0); have b1 := hA.trans (hb1.mono hA.size); clear c0 c1 c2 c3 c4 c5; obtain ⟨c0, c1, c2, c3, c4, c5⟩ := entry_row hx1))
            | (go_at_call 55; ((with_reducible refine (HE.out _).mono ?_); rintro e9 w2 ⟨rfl, hb2⟩; have hr2 := e_on hb2 hr1 (e_lt hr1); have hx2 := e_on hb2 hx1 (e_lt hx1); have b2 := b1.trans (hb2.mono b1.size); clear c0 c1 c2 c3 c4 c5; obtain ⟨c0, c1, c2, c3, c4, c5⟩ := entry_row hx2))
            | (go_at_call 54; ((with_reducible refine (HP.out _ b2).mono ?_); rintro e9 w3 ⟨rfl, hb3⟩; have hr3 := e_on hb3 hr2 (e_lt hr2); have hx3 := e_on hb3 hx2 (e_lt hx2); have b3 := b2.trans (hb3.mono b2.size); clear c0 c1 c2 c3 c4 c5; obtain ⟨c0, c1, c2, c3, c4, c5⟩ := entry_row hx3))
            | (go_at_call 35; ((with_reducible refine (HF2.out _ b3).mono ?_); rintro e9 w4 ⟨rfl, hb4⟩; have hr4 := e_al (e_on hb4 hr3 (e_lt hr3)) (entRow yb yk yv ym yz yo); have hx4 := e_al (e_on hb4 hx3 (e_lt hx3)) (entRow yb yk yv ym yz yo); have ho4 := heap_alloc_new w4 (entRow yb yk yv ym yz yo); have b4 := (b3.trans (hb4.mono b3.size)).alloc (b3.trans (hb4.mono b3.size)).size (entRow yb yk yv ym yz yo); have hwx := e_lt hx4; have hwr := e_lt hr4; have hwo := e_lt ho4; have n4 : w.heap.size + 2 ≤ w4.heap.size := Nat.le_trans (by omega) (Nat.le_trans hb1.size (Nat.le_trans hb2.size (Nat.le_trans hb3.size hb4.size))); clear c0 c1 c2 c3 c4 c5; obtain ⟨c0, c1, c2, c3, c4, c5⟩ := entry_row hx4; obtain ⟨o0, o1, o2, o3, o4, o5⟩ := entry_row ho4)))
          refine Plan.start (fun W => W.cell? ⟨w4.heap.size, 0, none⟩ = some (.int .i64 yb) ∧ W.cell? ⟨w4.heap.size, 1, none⟩ = some (.int .i64 yk) ∧ W.cell? ⟨w4.heap.size, 2, none⟩ = some (.int .i64 yv) ∧ W.cell? ⟨w4.heap.size, 3, none⟩ = some (.int .i64 ym) ∧ W.cell? ⟨w4.heap.size, 4, none⟩ = some (.int .i64 yz) ∧ W.cell? ⟨w4.heap.size, 5, none⟩ = some (.int .i64 yo)) [(0, true), (1, true), (2, true), (3, false), (4, true)] (by kernel_rfl) (by kernel_rfl) (by kernel_rfl) (by kernel_rfl) ⟨o0, o1, o2, o3, o4, o5⟩ ?_
          simp only [List.map_cons, List.map_nil, List.getElem?_toArray, List.getElem?_cons_zero, List.getElem?_cons_succ]
          repeat (first | (refine Plan.take ?_ (by rfl) ?_ ?_; rotate_left; (· rintro w9 ⟨u0, u1, u2, u3, u4, u5⟩; go_simp; (try rw [if_neg (by omega)]); all_goals (with_reducible rfl)); simp only [Act.put, List.setIfInBounds_toArray, List.set_cons_zero, List.set_cons_succ]) | (refine Plan.pass (by rfl) ?_; simp only [Act.put, List.setIfInBounds_toArray, List.set_cons_zero, List.set_cons_succ]))
          refine Plan.store (by rfl) 28 (.tmp 5) (.tmp 40) rfl (w.heap.size + 1) #[.int .i64 yb, .int .i64 yk, .int .i64 yv, .int .i64 ym, .int .i64 yz, .int .i64 yo] rfl rfl 28 _ (show (w4.alloc (entRow yb yk yv ym yz yo)).drew.heap[w.heap.size + 1]? = _ from hr4) entry_info rfl (by simp [Value.oneCell']) (entry_row ((setRow_other _ (w.heap.size + 1) w4.heap.size _ (by omega)).trans (show (w4.alloc (entRow yb yk yv ym yz yo)).drew.heap[w4.heap.size]? = _ from ho4))) ?_
          simp only [Act.put]
          repeat (first | (refine Plan.take ?_ (by rfl) ?_ ?_; rotate_left; (· rintro w9 ⟨u0, u1, u2, u3, u4, u5⟩; go_simp; (try rw [if_neg (by omega)]); all_goals (with_reducible rfl)); simp only [Act.put, List.setIfInBounds_toArray, List.set_cons_zero, List.set_cons_succ]) | (refine Plan.pass (by rfl) ?_; simp only [Act.put, List.setIfInBounds_toArray, List.set_cons_zero, List.set_cons_succ]))
          refine Plan.ends ?_
          have hl9 := HEND.out _ b4.drew #[.int .i64 yb, .int .i64 yk, .int .i64 yv, .int .i64 ym, .int .i64 yz, .int .i64 yo]
          have b9 := below_setRow b4.drew (show w.heap.size ≤ w.heap.size + 1 by omega) #[.int .i64 yb, .int .i64 yk, .int .i64 yv, .int .i64 ym, .int .i64 yz, .int .i64 yo]
          have hr9 := setRow_heap (w4.alloc (entRow yb yk yv ym yz yo)).drew (w.heap.size + 1) _ #[.int .i64 yb, .int .i64 yk, .int .i64 yv, .int .i64 ym, .int .i64 yz, .int .i64 yo] _ _ (show (w4.alloc (entRow yb yk yv ym yz yo)).drew.heap[w.heap.size + 1]? = _ from hr4)
          generalize (w4.alloc (entRow yb yk yv ym yz yo)).drew.setRow (w.heap.size + 1) #[.int .i64 yb, .int .i64 yk, .int .i64 yv, .int .i64 ym, .int .i64 yz, .int .i64 yo] = w9 at *
          clear o0 o1 o2 o3 o4 o5 c0 c1 c2 c3 c4 c5
          go_wp2_with fail
          exact bodyPost_ret (results_tct (p := 4) (q := 5) (r := 6) rfl _ _ _ _ _ _ _ rfl hr9 Try.underlying28 rfl entry_info) rfl ⟨_, _, _, rfl, hl9, b9⟩
        · obtain ⟨r1, r2, r3⟩ := inst_e hva hok hlk (by omega)
          rw [r2, r3]
          generalize installL L e = LL at r1 ⊢
          clear r2 r3 hva hok hf2 hfe hlk hyb HFI HEND
          generalize hkk : place L e.block = k at *
          have HLL := Lib.hid r1
          clear r1
          obtain ⟨eb, ek, ev, em, ez, eo⟩ := e
          obtain ⟨yb, yk, yv, ym, yz, yo⟩ := y
          try simp only at HV HE HP HF2 hA hr0 hx0 hs0 hvv HLL
          clear hkk
          have hkI : (k : Int) + 1 ≤ (len : Int) := by omega
          rcases a with _ | x
          · obtain ⟨rfl, -⟩ := HL.out.none
            exact absurd hklt (Nat.not_lt_zero _)
          · have HCAP := HL.out.cap
            have hkC : k ≤ cap := by have := HCAP.1; omega
            have hkC2 : (k : Int) + 1 ≤ (cap : Int) := by omega
            have hkN : k + 1 ≤ len := hklt
            have HT := Lib.hid (fun W (h : Below w.heap.size w W) => (HLOW.out W h).taken (k) (by omega))
            have hd : ∀ W (h : Below w.heap.size w W), EList W (fun b => b < w.heap.size) (if cap = k + 1 then some x else some (x.add ((k + 1) * 6))) (len - (k + 1)) (cap - (k + 1)) (L.drop (k + 1)) := fun W h => (HLOW.out W h).dropped (k + 1) (by omega)
            have HD := Lib.hid hd
            clear hd
            go_enter Try.func36, Try.ntmps36
            generalize hw0 : (w.alloc (entRow eb ek ev em ez eo)).alloc (entRow 0 0 0 0 0 0) = w0 at *
            obtain ⟨c0, c1, c2, c3, c4, c5⟩ := entry_row hx0
            go_wp2_with (first
              | (go_at_call 50; ((with_reducible refine (HV.out _ hA).mono ?_); rintro e9 w1 ⟨rfl, hb1⟩; have hr1 := e_on hb1 hr0 (e_lt hr0); have hx1 := e_on hb1 hx0 (e_lt hx0); have b1 := hA.trans (hb1.mono hA.size); clear c0 c1 c2 c3 c4 c5; obtain ⟨c0, c1, c2, c3, c4, c5⟩ := entry_row hx1))
              | (go_at_call 55; ((with_reducible refine (HE.out _).mono ?_); rintro e9 w2 ⟨rfl, hb2⟩; have hr2 := e_on hb2 hr1 (e_lt hr1); have hx2 := e_on hb2 hx1 (e_lt hx1); have b2 := b1.trans (hb2.mono b1.size); clear c0 c1 c2 c3 c4 c5; obtain ⟨c0, c1, c2, c3, c4, c5⟩ := entry_row hx2))
              | (go_at_call 54; ((with_reducible refine (HP.out _ b2).mono ?_); rintro e9 w3 ⟨rfl, hb3⟩; have hr3 := e_on hb3 hr2 (e_lt hr2); have hx3 := e_on hb3 hx2 (e_lt hx2); have b3 := b2.trans (hb3.mono b2.size); clear c0 c1 c2 c3 c4 c5; obtain ⟨c0, c1, c2, c3, c4, c5⟩ := entry_row hx3))
              | (go_at_call 35; ((with_reducible refine (HF2.out _ b3).mono ?_); rintro e9 w4 ⟨rfl, hb4⟩; have hr4 := e_al (e_on hb4 hr3 (e_lt hr3)) (entRow yb yk yv ym yz yo); have hx4 := e_al (e_on hb4 hx3 (e_lt hx3)) (entRow yb yk yv ym yz yo); have ho4 := heap_alloc_new w4 (entRow yb yk yv ym yz yo); have b4 := (b3.trans (hb4.mono b3.size)).alloc (b3.trans (hb4.mono b3.size)).size (entRow yb yk yv ym yz yo); have hwx := e_lt hx4; have hwr := e_lt hr4; have hwo := e_lt ho4; have n4 : w.heap.size + 2 ≤ w4.heap.size := Nat.le_trans (by omega) (Nat.le_trans hb1.size (Nat.le_trans hb2.size (Nat.le_trans hb3.size hb4.size))); clear c0 c1 c2 c3 c4 c5; obtain ⟨c0, c1, c2, c3, c4, c5⟩ := entry_row hx4; obtain ⟨o0, o1, o2, o3, o4, o5⟩ := entry_row ho4))
              | (at_builtin; refine append_ents (F := fun b => b < w.heap.size) rfl (.tmp 41) (.tmp 44) rfl (w4.heap.size + 1) (.slice (some ⟨w4.heap.size + 1, 0, none⟩) 0 0) 0 [] rfl (ents_empty (w4.alloc (entRow yb yk yv ym yz yo)) (World.size_alloc _ _)) (some x) k cap (L.take k) rfl (HT.out _ (b4.alloc b4.size (.cells #[] 28))) (by omega) (by simp) ?_; intro v5 w5 hown5 hgrow5; rw [Nat.zero_add, List.nil_append] at hown5; have hr5 := (hgrow5.block (w.heap.size + 1) (by simp only [World.size_alloc] at *; omega) (fun h9 => by have h8 := Option.some.inj (show some _ = some (w4.heap.size + 1) from h9); omega)).trans (e_al hr4 (.cells #[] 28)); have hx5 := (hgrow5.block w.heap.size (by simp only [World.size_alloc] at *; omega) (fun h9 => by have h8 := Option.some.inj (show some _ = some (w4.heap.size + 1) from h9); omega)).trans (e_al hx4 (.cells #[] 28)); have ho5 := (hgrow5.block w4.heap.size (by simp only [World.size_alloc] at *; omega) (fun h9 => by have h8 := Option.some.inj (show some _ = some (w4.heap.size + 1) from h9); omega)).trans (e_al ho4 (.cells #[] 28)); have b5 := (b4.alloc b4.size (.cells #[] 28)).grown hgrow5 (b4.alloc b4.size (.cells #[] 28)).size (fun z9 h9 => by have h8 := Option.some.inj (show some (w4.heap.size + 1) = some z9 from h9); omega); have n5 := e_lt ho5; clear c0 c1 c2 c3 c4 c5; obtain ⟨c0, c1, c2, c3, c4, c5⟩ := entry_row hx5)
              | (at_builtin; refine append_ents (F := fun _ => True) rfl (.tmp 46) (.tmp 48) rfl (w4.heap.size + 1) v5 k (L.take k) rfl (hown5.alloc _) (some ⟨w5.heap.size, 0, none⟩) 1 1 [⟨eb, ek, ev, em, ez, eo⟩] rfl (elist_one (heap_alloc_new w5 (entRow eb ek ev em ez eo))) (by omega) (by simp only [World.size_alloc]; omega) ?_; intro v6 w6 hown6 hgrow6; have hr6 := (hgrow6.block (w.heap.size + 1) (by simp only [World.size_alloc]; omega) (fun h9 => by have := (hown5.lt _ h9.symm).1; omega)).trans (e_al hr5 (entRow eb ek ev em ez eo)); have ho6 := (hgrow6.block w4.heap.size (by simp only [World.size_alloc]; omega) (fun h9 => by have := (hown5.lt _ h9.symm).1; omega)).trans (e_al ho5 (entRow eb ek ev em ez eo)); have b6 := (b5.alloc b5.size (entRow eb ek ev em ez eo)).grown hgrow6 (b5.alloc b5.size (entRow eb ek ev em ez eo)).size (fun z9 h9 => by have := (hown5.lt _ h9).1; omega); have n6 := e_lt ho6; clear c0 c1 c2 c3 c4 c5 o0 o1 o2 o3 o4 o5; obtain ⟨o0, o1, o2, o3, o4, o5⟩ := entry_row ho6))
            refine Plan.start (fun W => W.cell? ⟨w4.heap.size, 0, none⟩ = some (.int .i64 yb) ∧ W.cell? ⟨w4.heap.size, 1, none⟩ = some (.int .i64 yk) ∧ W.cell? ⟨w4.heap.size, 2, none⟩ = some (.int .i64 yv) ∧ W.cell? ⟨w4.heap.size, 3, none⟩ = some (.int .i64 ym) ∧ W.cell? ⟨w4.heap.size, 4, none⟩ = some (.int .i64 yz) ∧ W.cell? ⟨w4.heap.size, 5, none⟩ = some (.int .i64 yo)) [(0, true), (1, true), (2, true), (3, true), (5, true), (4, false), (6, true), (7, false), (8, true)] (by kernel_rfl) (by kernel_rfl) (by kernel_rfl) (by kernel_rfl) ⟨o0, o1, o2, o3, o4, o5⟩ ?_
            simp only [List.map_cons, List.map_nil, List.getElem?_toArray, List.getElem?_cons_zero, List.getElem?_cons_succ]
            iterate 3 (refine Plan.take ?_ (by rfl) ?_ ?_; rotate_left; (· rintro w9 ⟨u0, u1, u2, u3, u4, u5⟩; go_simp; all_goals (with_reducible rfl)); simp only [Act.put, List.setIfInBounds_toArray, List.set_cons_zero, List.set_cons_succ])
            refine Plan.take (.slice (if cap = k + 1 then some x else some (x.add ((k + 1) * 6))) (len - (k + 1)) (cap - (k + 1))) (by rfl) ?_ ?_
            · rintro w9 -
              go_simp
              all_goals (intro h9; omega)
            simp only [Act.put, List.setIfInBounds_toArray, List.set_cons_zero, List.set_cons_succ]
            refine Plan.take ?_ (by rfl) ?_ ?_
            rotate_left
            · rintro w9 ⟨u0, u1, u2, u3, u4, u5⟩
              go_simp
              all_goals (with_reducible rfl)
            simp only [Act.put, List.setIfInBounds_toArray, List.set_cons_zero, List.set_cons_succ]
            refine Plan.carry (by rfl) (wp_append_ents (F := fun b => b < w.heap.size) (.tmp 53) (.tmp 56) rfl (w4.heap.size + 1) v6 (k + 1) (L.take k ++ [⟨eb, ek, ev, em, ez, eo⟩]) rfl (w := w6.drew) (e_owns_drew hown6) (if cap = k + 1 then some x else some (x.add ((k + 1) * 6))) (len - (k + 1)) (cap - (k + 1)) (L.drop (k + 1)) rfl (HD.out _ b6.drew) (by omega) (show w4.heap.size + 1 ≤ w6.heap.size by omega) ?_)
            intro v7 w7 hown7 hgrow7
            have hr7 := (hgrow7.block (w.heap.size + 1) (show w.heap.size + 1 < w6.heap.size by omega) (fun h9 => by have := (hown6.lt _ h9.symm).1; omega)).trans (show w6.drew.heap[w.heap.size + 1]? = _ from hr6)
            have ho7 := (hgrow7.block w4.heap.size (show w4.heap.size < w6.heap.size by omega) (fun h9 => by have := (hown6.lt _ h9.symm).1; omega)).trans (show w6.drew.heap[w4.heap.size]? = _ from ho6)
            have b7 := b6.drew.grown hgrow7 b6.drew.size (fun z9 h9 => by have := (hown6.lt _ h9).1; omega)
            refine ⟨entry_row ho7, ?_⟩
            simp only [Act.put, List.setIfInBounds_toArray, List.set_cons_zero, List.set_cons_succ]
            repeat (first | (refine Plan.take ?_ (by rfl) ?_ ?_; rotate_left; (· rintro w9 ⟨u0, u1, u2, u3, u4, u5⟩; go_simp; (try rw [if_neg (by omega)]); all_goals (with_reducible rfl)); simp only [Act.put, List.setIfInBounds_toArray, List.set_cons_zero, List.set_cons_succ]) | (refine Plan.pass (by rfl) ?_; simp only [Act.put, List.setIfInBounds_toArray, List.set_cons_zero, List.set_cons_succ]))
            refine Plan.store (by rfl) 28 (.tmp 5) (.tmp 58) rfl (w.heap.size + 1) #[.int .i64 yb, .int .i64 yk, .int .i64 yv, .int .i64 ym, .int .i64 yz, .int .i64 yo] rfl rfl 28 _ hr7 entry_info rfl (by simp [Value.oneCell']) (entry_row ((setRow_other _ (w.heap.size + 1) w4.heap.size _ (by omega)).trans ho7)) ?_
            simp only [Act.put]
            repeat (first | (refine Plan.take ?_ (by rfl) ?_ ?_; rotate_left; (· rintro w9 ⟨u0, u1, u2, u3, u4, u5⟩; go_simp; (try rw [if_neg (by omega)]); all_goals (with_reducible rfl)); simp only [Act.put, List.setIfInBounds_toArray, List.set_cons_zero, List.set_cons_succ]) | (refine Plan.pass (by rfl) ?_; simp only [Act.put, List.setIfInBounds_toArray, List.set_cons_zero, List.set_cons_succ]))
            refine Plan.ends ?_
            have hne7 : ∀ b, v7.ownBlock = some b → w4.heap.size + 1 ≤ b := fun b h9 => (hown7.lt _ h9).1
            have hown9 := hown7.kept (sm_setRow w7 (w.heap.size + 1) #[.int .i64 yb, .int .i64 yk, .int .i64 yv, .int .i64 ym, .int .i64 yz, .int .i64 yo]) (.inr fun h9 => by have := hne7 _ h9; omega)
            obtain ⟨-, a7, c7, rfl, hl7⟩ := owns_ents (F := Plus F w.heap.size) hown9 (fun b h9 => .inr (by have := hne7 _ h9; omega))
            clear hown9 hown7 hgrow7 hown6 hgrow6 hown5 hgrow5 ho7 ho6 ho5 ho4 hx5 hx4 hr6 hr5 hr4 o0 o1 o2 o3 o4 o5
            go_wp2_with fail
            all_goals exact bodyPost_ret (results_tct (p := 4) (q := 5) (r := 6) rfl _ _ _ _ _ _ _ rfl (setRow_heap _ _ _ _ _ _ hr7) Try.underlying28 rfl entry_info) rfl ⟨_, _, _, rfl, (by rw [HLL.out]; first | exact hl7 | (have h9 := hl7; rw [show k + 1 + (len - (k + 1)) = len by omega] at h9; exact h9)), below_setRow b7 (show w.heap.size ≤ w.heap.size + 1 by omega) _⟩
end Go.Proofs.Ytljobnfilnbefaa.Ents

/- The walk of the document's Relocate. -/
namespace Go.Proofs.Ytljobnfilnbefaa.Ents
open Go.RowKit Plan EntMath
/-- what a function that gives a list and a yes or no leaves -/
def RelPost (w : World) (F : Nat → Prop) (L : List Ent) (B : Bool) (r : Ending) (w' : World) : Prop :=
  ∃ a len cap, r = .returned (.tuple #[.slice a len cap, .bool B]) ∧ EList w' (Plus F w.heap.size) a len cap L ∧ Below w.heap.size w w'
theorem rel_a {L : List Ent} {b v fz fo tz to m : Int} (h : validB L = false) : relocL L b v fz fo tz to m = [] ∧ moves L b v fz fo tz to m = false := by
  unfold relocL moves
  rw [find_invalid h]
  simp [h]
theorem rel_no {L : List Ent} {b v fz fo tz to m : Int} (h : validB L = true) (hm : moves L b v fz fo tz to m = false) : relocL L b v fz fo tz to m = L := by
  unfold relocL
  rw [if_pos h, if_neg (by rw [hm]; decide)]
theorem rel_none {L : List Ent} {b v fz fo tz to m : Int} (h : findE L b = none) : moves L b v fz fo tz to m = false := by
  unfold moves
  rw [h]
theorem rel_some {L : List Ent} {b v fz fo tz to m : Int} {y : Ent} (h : findE L b = some y) : moves L b v fz fo tz to m = true ↔ y.version = v ∧ y.zone = fz ∧ y.offset = fo ∧ 0 ≤ tz ∧ 0 ≤ to ∧ 0 ≤ m ∧ m ≤ 255 := by
  unfold moves
  rw [h]
  simp [Bool.and_eq_true, and_assoc]
theorem rel_yes {L : List Ent} {b v fz fo tz to m : Int} {y : Ent} (h : validB L = true) (hy : lookE L b = some y) (hm : moves L b v fz fo tz to m = true) : relocL L b v fz fo tz to m = L.set (place L b) (moved y tz to m) := by
  have hb := look_block hy
  unfold relocL
  rw [if_pos h, if_pos hm, hy]
  have := ins_set (L := L) (moved y tz to m) y (by show lookE L y.block = some y; rw [hb]; exact hy) (valid_iff.1 h).2
  show ins L (moved y tz to m) = _
  rw [← this]
  show L.set (place L y.block) _ = _
  rw [hb]
theorem e_owns_on {w w' : World} {B sz n : Nat} {t : TypeId} {v : Value} {xs : List Value} (h : w.ownsRow B t sz v n xs) (hb : Below w.heap.size w w') : w'.ownsRow B t sz v n xs := by
  refine h.kept (row := none) ⟨hb.os, hb.tape, hb.output, hb.size, fun i hi _ => hb.block i hi⟩ ?_
  cases v.ownBlock <;> simp
theorem e_owns_one {w : World} {B g n cap : Nat} {t : TypeId} {C : List Value} (h : w.ownsRow B t 6 (.slice (some ⟨g, 0, none⟩) n cap) n C) {j : Nat} (hj : j < C.length) : (∃ u, w.cell? ⟨g, j, none⟩ = some u) ∧ w.frozen? ⟨g, j, none⟩ = false := by
  constructor
  · have := h.cells (g := g) rfl j C[j] (List.getElem?_eq_getElem _)
    rw [Addr.add_lit, Nat.zero_add] at this
    exact ⟨_, this⟩
  · rcases h.2 with ⟨h, _⟩ | ⟨g', cap', cur, hv, hb, hg, _⟩
    · cases h
    · cases hv
      simp [World.frozen?, hg]
theorem e_owns_at {w : World} {B g n cap k : Nat} {L : List Ent} (h : w.ownsRow B 28 6 (.slice (some ⟨g, 0, none⟩) n cap) n (ents L)) (hl : L.length = n) (hk : k < n) :
    ((∃ u, w.cell? ⟨g, k * 6 + 3, none⟩ = some u) ∧ w.frozen? ⟨g, k * 6 + 3, none⟩ = false) ∧ ((∃ u, w.cell? ⟨g, k * 6 + 4, none⟩ = some u) ∧ w.frozen? ⟨g, k * 6 + 4, none⟩ = false) ∧ ((∃ u, w.cell? ⟨g, k * 6 + 5, none⟩ = some u) ∧ w.frozen? ⟨g, k * 6 + 5, none⟩ = false) := by
  have hC : (ents L).length = n * 6 := by rw [ents_length, hl]
  exact ⟨e_owns_one h (by omega), e_owns_one h (by omega), e_owns_one h (by omega)⟩
theorem e_owns_cell {w : World} {B sz g n cap : Nat} {t : TypeId} {C : List Value} (h : w.ownsRow B t sz (.slice (some ⟨g, 0, none⟩) n cap) n C) (j : Nat) (u : Value) :
    (w.setCell ⟨g, j, none⟩ u).ownsRow B t sz (.slice (some ⟨g, 0, none⟩) n cap) n (C.set j u) := by
  obtain ⟨h1, h2⟩ := h
  rcases h2 with ⟨h, _⟩ | ⟨g', cap', cur, hv, hb, hg, k1, k2, k3, k4⟩
  · cases h
  · cases hv
    refine ⟨by rw [List.length_set]; exact h1, .inr ⟨g, cap, cur.setIfInBounds j u, rfl, hb, ?_, k1, k2, by simpa using k3, ?_⟩⟩
    · rw [setCell_eq_setRow w g j cur t (0, 0) u hg]
      exact setRow_heap w g cur _ t (0, 0) hg
    · rw [Array.toList_setIfInBounds, List.take_set, k4]
theorem ents_moved {L : List Ent} {k : Nat} {y : Ent} (h : L[k]? = some y) (tz to m : Int) : ents (L.set k (moved y tz to m)) = (((ents L).set (k * 6 + 4) (.int .i64 tz)).set (k * 6 + 5) (.int .i64 to)).set (k * 6 + 3) (.int .i64 m) := by
  induction L generalizing k with
  | nil => cases h
  | cons x L ih =>
    cases k with
    | zero =>
      obtain rfl := Option.some.inj h
      simp [ents_cons, entC, moved]
    | succ k =>
      have hs : ∀ (M : List Value) j u, (entC x ++ M).set (j + 6) u = entC x ++ M.set j u := fun M j u => by simp [entC]
      rw [List.set_cons_succ, ents_cons, ents_cons, ih h]
      rw [show (k + 1) * 6 + 4 = (k * 6 + 4) + 6 by omega, hs, show (k + 1) * 6 + 5 = (k * 6 + 5) + 6 by omega, hs, show (k + 1) * 6 + 3 = (k * 6 + 3) + 6 by omega, hs]
theorem place_row {w : World} {g : Nat} {a b : Value} {t : TypeId} {fr : Nat × Nat} (h : w.heap[g]? = some (.cells #[a, b] t fr)) : w.cell? ⟨g, 0, none⟩ = some a ∧ w.cell? ⟨g, 1, none⟩ = some b := ⟨cell_of_row _ _ 0 _ _ _ h, cell_of_row _ _ 1 _ _ _ h⟩
set_option maxHeartbeats 4000000 in
set_option maxRecDepth 20000 in
theorem refRelocate_any (F : Nat → Prop) (L : List Ent) (b v fz fo tz to m : Int) (a : Option Addr) (len cap : Nat) (w : World) (hl : EList w F a len cap L) (hm : len ≤ 900000) :
    Calls Try.prog 52 #[.slice a len cap, .int .i64 b, .int .i64 v, .agg #[.int .i64 fz, .int .i64 fo], .agg #[.int .i64 tz, .int .i64 to], .int .i64 m] w (RelPost w F (relocL L b v fz fo tz to m) (moves L b v fz fo tz to m)) := by
  have hlen := hl.length
  have hA := ((Below.refl w.heap.size w).alloc (Nat.le_refl _) (placeRow fz fo)).alloc (by simp) (placeRow tz to)
  have hr0 := heap_second w (placeRow fz fo) (placeRow tz to)
  have hx0 := heap_first w (placeRow fz fo) (placeRow tz to)
  have hlow := fun W (h : Below w.heap.size w W) => hl.low.on (Same.low h)
  have hv := fun W h => refValid_any _ L a len cap W (hlow W h)
  have hp := fun W h => refPlace_any _ L b a len cap W (hlow W h)
  have hfi := fun W h => refFind_any _ L b a len cap W (hlow W h)
  have hend := fun W (h : Below w.heap.size w W) => (show EList W (Plus F w.heap.size) a len cap L from (hl.cut.on (Same.below (w' := W) h)).mono (fun b _ h => .inl h.1))
  have HV := Lib.hid hv
  have HP := Lib.hid hp
  have HEND := Lib.hid hend
  have HLOW := Lib.hid hlow
  have HL := Lib.hid hl
  clear hv hp hlow hend hl
  cases hva : validB L
  · obtain ⟨r1, r2⟩ := rel_a (b := b) (v := v) (fz := fz) (fo := fo) (tz := tz) (to := to) (m := m) hva
    rw [r1, r2]
    rw [hva] at HV
    clear r1 r2 hva hfi
    go_enter Try.func52, Try.ntmps52
    generalize hw0 : (w.alloc (placeRow fz fo)).alloc (placeRow tz to) = w0 at *
    go_wp2_with (first
      | (go_at_call 50; ((with_reducible refine (HV.out _ hA).mono ?_); rintro e9 w1 ⟨rfl, hb1⟩; have hr1 := e_on hb1 hr0 (e_lt hr0); have hx1 := e_on hb1 hx0 (e_lt hx0); have b1 := hA.trans (hb1.mono hA.size))))
    go_ret2
    exact ⟨_, _, _, rfl, EList.nil _ _, b1⟩
  · rw [hva] at HV
    cases hfe : findE L b with
    | none =>
      have hm0 := rel_none (v := v) (fz := fz) (fo := fo) (tz := tz) (to := to) (m := m) hfe
      rw [rel_no hva hm0, hm0]
      have hf2 : ∀ W (h : Below w.heap.size w W), Calls Try.prog 35 #[.slice a len cap, .int .i64 b] W fun r w' => r = .returned (.tuple #[.agg #[.int .i64 0, .int .i64 0, .int .i64 0, .int .i64 0, .int .i64 0, .int .i64 0], .bool false]) ∧ Below W.heap.size W w' := fun W h => by
        have := hfi W h
        rwa [findV_none hfe] at this
      have HF2 := Lib.hid hf2
      clear hf2 hfi hfe hva hm0
      go_enter Try.func52, Try.ntmps52
      generalize hw0 : (w.alloc (placeRow fz fo)).alloc (placeRow tz to) = w0 at *
      go_wp2_with (first
        | (go_at_call 50; ((with_reducible refine (HV.out _ hA).mono ?_); rintro e9 w1 ⟨rfl, hb1⟩; have hr1 := e_on hb1 hr0 (e_lt hr0); have hx1 := e_on hb1 hx0 (e_lt hx0); have b1 := hA.trans (hb1.mono hA.size)))
        | (go_at_call 35; ((with_reducible refine (HF2.out _ b1).mono ?_); rintro e9 w2 ⟨rfl, hb2⟩; have b2 := (b1.trans (hb2.mono b1.size)).alloc (b1.trans (hb2.mono b1.size)).size (entRow 0 0 0 0 0 0))))
      go_ret2
      exact ⟨_, _, _, rfl, HEND.out _ b2, b2⟩
    | some y =>
      have hlk : lookE L b = some y := by unfold findE at hfe; rwa [if_pos hva] at hfe
      have hf2 : ∀ W (h : Below w.heap.size w W), Calls Try.prog 35 #[.slice a len cap, .int .i64 b] W fun r w' => r = .returned (.tuple #[entV y, .bool true]) ∧ Below W.heap.size W w' := fun W h => by
        have := hfi W h
        rwa [findV_some hfe] at this
      have HF2 := Lib.hid hf2
      have hmv := @rel_some L b v fz fo tz to m y hfe
      have hn := fun h => @rel_no L b v fz fo tz to m hva h
      have hyy := fun h => @rel_yes L b v fz fo tz to m y hva hlk h
      have hklt : place L b < len := by
        have h1 := look_place (valid_iff.1 hva).2 b
        rw [hlk] at h1
        rcases Nat.lt_or_ge (place L b) len with h2 | h2
        · exact h2
        · rw [List.getElem?_eq_none (by omega)] at h1; cases h1
      have hat : L[place L b]? = some y := by
        have h1 := look_place (valid_iff.1 hva).2 b
        rw [hlk, List.getElem?_eq_getElem (by omega)] at h1
        simp only at h1
        split at h1
        · rw [List.getElem?_eq_getElem (by omega), h1]
        · cases h1
      generalize relocL L b v fz fo tz to m = RL at *
      generalize moves L b v fz fo tz to m = M at *
      generalize place L b = k at *
      have HMV := Lib.hid hmv
      have HN := Lib.hid hn
      have HYY := Lib.hid hyy
      have HAT := Lib.hid hat
      clear hmv hn hyy hf2 hfi hfe hva hlk hat
      obtain ⟨yb, yk, yv, ym, yz, yo⟩ := y
      try simp only at HF2 HMV HYY
      have HNO : RowKit.Hid (¬ (yv = v ∧ yz = fz ∧ yo = fo ∧ 0 ≤ tz ∧ 0 ≤ to ∧ 0 ≤ m ∧ m ≤ 255) → M = false) := Lib.hid (fun h => by
        cases M
        · rfl
        · exact absurd (HMV.out.1 rfl) h)
      by_cases h1 : yv = v
      · subst h1
        by_cases h2 : yz = fz
        · subst h2
          by_cases h3 : yo = fo
          · subst h3
            obtain ⟨i1, hi1, hy0, hy1, hy2⟩ := info_parts e_info
            have HNO2 : RowKit.Hid (¬ (0 ≤ tz ∧ 0 ≤ to ∧ 0 ≤ m ∧ m ≤ 255) → M = false) := Lib.hid (fun h => HNO.out (fun h2 => h h2.2.2.2))
            have HYES : RowKit.Hid (0 ≤ tz ∧ 0 ≤ to ∧ 0 ≤ m ∧ m ≤ 255 → M = true) := Lib.hid (fun h => HMV.out.2 ⟨by trivial, by trivial, by trivial, h⟩)
            clear HNO HMV
            rcases a with _ | x
            · obtain ⟨rfl, -⟩ := HL.out.none; exact absurd hklt (Nat.not_lt_zero _)
            go_enter Try.func52, Try.ntmps52
            generalize hw0 : (w.alloc (placeRow yz yo)).alloc (placeRow tz to) = w0 at *
            go_wp2_with (first
              | (go_at_call 50; ((with_reducible refine (HV.out _ hA).mono ?_); rintro e9 w1 ⟨rfl, hb1⟩; have hr1 := e_on hb1 hr0 (e_lt hr0); have hx1 := e_on hb1 hx0 (e_lt hx0); have b1 := hA.trans (hb1.mono hA.size)))
              | (go_at_call 35; ((with_reducible refine (HF2.out _ b1).mono ?_); rintro e9 w2 ⟨rfl, hb2⟩; have n2 := e_lt (e_on hb2 hr1 (e_lt hr1)); have hr2 := e_al (e_on hb2 hr1 (e_lt hr1)) (entRow yb yk yv ym yz yo); have hx2 := e_al (e_on hb2 hx1 (e_lt hx1)) (entRow yb yk yv ym yz yo); have b2 := (b1.trans (hb2.mono b1.size)).alloc (b1.trans (hb2.mono b1.size)).size (entRow yb yk yv ym yz yo); obtain ⟨c0, c1⟩ := place_row hx2; obtain ⟨d0, d1⟩ := place_row hr2))
              | (at_builtin; refine wpList_append_lies _ rfl (.tmp 60) (.tmp 61) 49 rfl (w2.heap.size + 1) 28 i1 _ 6 48 Try.underlying49 hi1 hy0 hy1 hy2 rfl (by decide) _ 0 [] (by rfl) (ents_empty (w2.alloc (entRow yb yk yv ym yz yo)) (World.size_alloc _ _)) x len cap (ents L) rfl (by rw [ents_length, hlen]) (HLOW.out _ (b2.alloc b2.size (.cells #[] 28))).news (ents_flat L) (by omega) (by unfold maxLen; omega) (by omega) (by simp) _ rfl ?_; intro g5 k5 w5 hown5 hgrow5 hat5 hlt5; rw [Nat.zero_add, List.nil_append] at hown5; have hge5 := (hown5.lt g5 rfl).1; have hr5 := (hgrow5.block (w.heap.size + 1) (by have := e_lt hr2; simp only [World.size_alloc] at *; omega) (fun h9 => by have h8 := Option.some.inj (show some _ = some (w2.heap.size + 1) from h9); omega)).trans (e_al hr2 (.cells #[] 28)); have b5 := (b2.alloc b2.size (.cells #[] 28)).grown hgrow5 (b2.alloc b2.size (.cells #[] 28)).size (fun z9 h9 => by have h8 := Option.some.inj (show some (w2.heap.size + 1) = some z9 from h9); omega); clear d0 d1 c0 c1 hgrow5)
              | (go_at_call 54; ((with_reducible refine (HP.out _ b5).mono ?_); rintro e9 w6 ⟨rfl, hb6⟩; have hown6 := e_owns_on hown5 hb6; have b6 := b5.trans (hb6.mono b5.size); obtain ⟨d0, d1⟩ := place_row (e_on hb6 hr5 (e_lt hr5)); obtain ⟨⟨⟨u3, q3⟩, f3⟩, ⟨⟨u4, q4⟩, f4⟩, ⟨⟨u5, q5⟩, f5⟩⟩ := e_owns_at hown6 hlen hklt)))
            all_goals first
              | (go_ret2; exact ⟨_, _, _, by rw [HNO2.out (by omega)]; rfl, by rw [HN.out (HNO2.out (by omega))]; exact HEND.out _ b2, b2⟩)
              | skip
            go_ret2
            have O9 := e_owns_cell (e_owns_cell (e_owns_cell hown6 (k * 6 + 4) (.int .i64 tz)) (k * 6 + 5) (.int .i64 to)) (k * 6 + 3) (.int .i64 m)
            have hsl : w.heap.size ≤ g5 := by have := b2.size; simp only [World.size_alloc] at this; omega
            have b9 := ((b6.setCell (show w.heap.size ≤ (⟨g5, k * 6 + 4, none⟩ : Addr).block from hsl) (.int .i64 tz)).setCell (show w.heap.size ≤ (⟨g5, k * 6 + 5, none⟩ : Addr).block from hsl) (.int .i64 to)).setCell (show w.heap.size ≤ (⟨g5, k * 6 + 3, none⟩ : Addr).block from hsl) (.int .i64 m)
            rw [← ents_moved HAT.out tz to m] at O9
            obtain ⟨-, a9, c9, h9, hl9⟩ := owns_ents (F := Plus F w.heap.size) O9 (fun b hb => .inr (by have := (O9.lt b hb).1; have := b2.size; simp only [World.size_alloc] at this; omega))
            cases h9
            exact ⟨_, _, _, by rw [HYES.out (by omega)]; rfl, by rw [HYY.out (HYES.out (by omega))]; exact hl9, b9⟩
          · have t3 : (yo == fo) = false := by simpa using h3
            have t4 : decide (yo = fo) = false := by simpa using h3
            go_enter Try.func52, Try.ntmps52
            generalize hw0 : (w.alloc (placeRow yz fo)).alloc (placeRow tz to) = w0 at *
            go_wp2_with (first
              | (go_at_call 50; ((with_reducible refine (HV.out _ hA).mono ?_); rintro e9 w1 ⟨rfl, hb1⟩; have hr1 := e_on hb1 hr0 (e_lt hr0); have hx1 := e_on hb1 hx0 (e_lt hx0); have b1 := hA.trans (hb1.mono hA.size)))
              | (go_at_call 35; ((with_reducible refine (HF2.out _ b1).mono ?_); rintro e9 w2 ⟨rfl, hb2⟩; have n2 := e_lt (e_on hb2 hr1 (e_lt hr1)); have hr2 := e_al (e_on hb2 hr1 (e_lt hr1)) (entRow yb yk yv ym yz yo); have hx2 := e_al (e_on hb2 hx1 (e_lt hx1)) (entRow yb yk yv ym yz yo); have b2 := (b1.trans (hb2.mono b1.size)).alloc (b1.trans (hb2.mono b1.size)).size (entRow yb yk yv ym yz yo); obtain ⟨c0, c1⟩ := place_row hx2; obtain ⟨d0, d1⟩ := place_row hr2)))
            go_ret2
            exact ⟨_, _, _, by rw [HNO.out (by omega)]; rfl, by rw [HN.out (HNO.out (by omega))]; exact HEND.out _ b2, b2⟩
        · have t3 : (yz == fz) = false := by simpa using h2
          have t4 : decide (yz = fz) = false := by simpa using h2
          go_enter Try.func52, Try.ntmps52
          generalize hw0 : (w.alloc (placeRow fz fo)).alloc (placeRow tz to) = w0 at *
          go_wp2_with (first
            | (go_at_call 50; ((with_reducible refine (HV.out _ hA).mono ?_); rintro e9 w1 ⟨rfl, hb1⟩; have hr1 := e_on hb1 hr0 (e_lt hr0); have hx1 := e_on hb1 hx0 (e_lt hx0); have b1 := hA.trans (hb1.mono hA.size)))
            | (go_at_call 35; ((with_reducible refine (HF2.out _ b1).mono ?_); rintro e9 w2 ⟨rfl, hb2⟩; have n2 := e_lt (e_on hb2 hr1 (e_lt hr1)); have hr2 := e_al (e_on hb2 hr1 (e_lt hr1)) (entRow yb yk yv ym yz yo); have hx2 := e_al (e_on hb2 hx1 (e_lt hx1)) (entRow yb yk yv ym yz yo); have b2 := (b1.trans (hb2.mono b1.size)).alloc (b1.trans (hb2.mono b1.size)).size (entRow yb yk yv ym yz yo); obtain ⟨c0, c1⟩ := place_row hx2; obtain ⟨d0, d1⟩ := place_row hr2)))
          go_ret2
          exact ⟨_, _, _, by rw [HNO.out (by omega)]; rfl, by rw [HN.out (HNO.out (by omega))]; exact HEND.out _ b2, b2⟩
      · have t3 : (yv != v) = true := by simpa using h1
        go_enter Try.func52, Try.ntmps52
        generalize hw0 : (w.alloc (placeRow fz fo)).alloc (placeRow tz to) = w0 at *
        go_wp2_with (first
          | (go_at_call 50; ((with_reducible refine (HV.out _ hA).mono ?_); rintro e9 w1 ⟨rfl, hb1⟩; have hr1 := e_on hb1 hr0 (e_lt hr0); have hx1 := e_on hb1 hx0 (e_lt hx0); have b1 := hA.trans (hb1.mono hA.size)))
          | (go_at_call 35; ((with_reducible refine (HF2.out _ b1).mono ?_); rintro e9 w2 ⟨rfl, hb2⟩; have n2 := e_lt (e_on hb2 hr1 (e_lt hr1)); have hr2 := e_al (e_on hb2 hr1 (e_lt hr1)) (entRow yb yk yv ym yz yo); have hx2 := e_al (e_on hb2 hx1 (e_lt hx1)) (entRow yb yk yv ym yz yo); have b2 := (b1.trans (hb2.mono b1.size)).alloc (b1.trans (hb2.mono b1.size)).size (entRow yb yk yv ym yz yo); obtain ⟨c0, c1⟩ := place_row hx2; obtain ⟨d0, d1⟩ := place_row hr2)))
        go_ret2
        exact ⟨_, _, _, by rw [HNO.out (by omega)]; rfl, by rw [HN.out (HNO.out (by omega))]; exact HEND.out _ b2, b2⟩
end Go.Proofs.Ytljobnfilnbefaa.Ents

/- The walks of the document's Drop and Same. -/
namespace Go.Proofs.Ytljobnfilnbefaa.Ents
open Go.RowKit Plan EntMath
/-- what Drop leaves -/
def DropPost (w : World) (F : Nat → Prop) (L M : List Ent) (r : Ending) (w' : World) : Prop :=
  ∃ a n c b m d, r = .returned (.tuple #[.slice a n c, .slice b m d]) ∧ EList w' (Plus F w.heap.size) a n c L ∧ EList w' (Plus F w.heap.size) b m d M ∧ Below w.heap.size w w'
theorem append_ent {w : World} {ops : Array Oper} {rest : List Oper} {o : Oper} {a : Act} {Q : Exit → Act → World → Prop} (hgd : o.guard = none) (s x : Operand)
    (ho : o.op = .call { callee := .builtin .append, args := #[s, x], argTypes := #[49, 49] })
    (base : Nat) (v : Value) (m0 : Nat) (M : List Ent) (hs : a.eval s = v) (hown : w.ownsRow base 28 6 v m0 (ents M)) (g : Nat) (e : Ent) (hx : a.eval x = .slice (some ⟨g, 0, none⟩) 1 1) (hg : w.heap[g]? = some (entRow e.block e.kind e.version e.move e.zone e.offset)) (hm : m0 ≤ 900000) (hbase : base ≤ w.heap.size)
    (h : ∀ g' c' w', w'.ownsRow base 28 6 (.slice (some ⟨g', 0, none⟩) (m0 + 1) c') (m0 + 1) (ents (M ++ [e])) → w.grownBy w' v.ownBlock → (v.ownBlock = some g' ∨ g' = w.heap.size) → wpList Try.prog ops Q rest (a.put o.dst (.slice (some ⟨g', 0, none⟩) (m0 + 1) c')) w') : wpList Try.prog ops Q (o :: rest) a w := by
  obtain ⟨i1, hi1, hy0, hy1, hy2⟩ := info_parts e_info
  have hL := (elist_one hg).news
  refine wpList_append_lies w hgd s x 49 ho base 28 i1 _ 6 48 Try.underlying49 hi1 hy0 hy1 hy2 rfl (by decide) v m0 (ents M) hs hown ⟨g, 0, none⟩ 1 1 (ents [e]) hx rfl hL (ents_flat _) (by decide) (by unfold maxLen; omega) (by omega) hbase _ rfl ?_
  intro g' c' w' h1 h2 h3 _
  rw [← ents_append] at h1
  exact h g' c' w' h1 h2 h3
theorem take_next {L : List Ent} {j : Nat} {e : Ent} (h : L[j]? = some e) : L.take (j + 1) = L.take j ++ [e] := by
  rw [List.take_add_one, h]
  rfl
theorem filter_next {L : List Ent} {j : Nat} {e : Ent} (h : L[j]? = some e) (p : Ent → Bool) : (L.take (j + 1)).filter p = (L.take j).filter p ++ (if p e = true then [e] else []) := by
  rw [take_next h, List.filter_append]
  congr 1
  simp only [List.filter_cons, List.filter_nil]
/-- two lists of the call's own in different blocks -/
def Apart (v u : Value) : Prop := ∀ b, v.ownBlock = some b → u.ownBlock = some b → False
theorem Apart.symm {v u : Value} (h : Apart v u) : Apart u v := fun b h1 h2 => h b h2 h1
theorem owns_apart {w w' : World} {B sz n : Nat} {t : TypeId} {v u : Value} {xs : List Value} (h : w.ownsRow B t sz v n xs) (hap : Apart v u) (hg : w.grownBy w' u.ownBlock) : w'.ownsRow B t sz v n xs := by
  refine h.kept hg ?_
  cases hv : v.ownBlock with
  | none => exact .inl rfl
  | some b => exact .inr (fun e => hap b hv e.symm)
theorem apart_next {w : World} {B sz n n' c' g H : Nat} {t : TypeId} {v u : Value} {xs : List Value} (hv : w.ownsRow B t sz v n xs) (hap : Apart v u) (hat : u.ownBlock = some g ∨ g = H) (hH : w.heap.size ≤ H) : Apart v (.slice (some ⟨g, 0, none⟩) n' c') := by
  intro b hb hb2
  have e : g = b := Option.some.inj (show some g = some b from hb2)
  subst e
  rcases hat with h | h
  · exact hap _ hb h
  · have := (hv.lt g hb).2
    omega
set_option maxHeartbeats 4000000 in
set_option maxRecDepth 20000 in
theorem refDrop_any (F : Nat → Prop) (L : List Ent) (cut : Int) (a : Option Addr) (len cap : Nat) (w : World) (hl : EList w F a len cap L) (hm : len ≤ 900000) :
    Calls Try.prog 53 #[.slice a len cap, .int .i64 cut] w (DropPost w F (stayL L cut) (goneL L cut)) := by
  have hlen := hl.length
  have hv := fun W (h : Below w.heap.size w W) => refValid_any _ L a len cap W (hl.low.on (Same.low h))
  have hat := fun W (h : Below w.heap.size w W) i (hi : i < len) => (hl.low.on (Same.low h)).ent i hi
  have HV := Lib.hid hv
  have HAT := Lib.hid hat
  clear hv hat hl
  have hw := Below.refl w.heap.size w
  cases hva : validB L
  · rw [show stayL L cut = [] from by unfold stayL; rw [hva]; rfl, show goneL L cut = [] from by unfold goneL; rw [hva]; rfl]
    rw [hva] at HV
    clear hva
    go_enter Try.func53, Try.ntmps53
    go_wp2_with (first
      | (go_at_call 50; ((with_reducible refine (HV.out _ hw).mono ?_); rintro e9 w1 ⟨rfl, hb1⟩)))
    go_ret2
    exact ⟨_, _, _, _, _, _, rfl, EList.nil _ _, EList.nil _ _, hb1⟩
  · rw [show stayL L cut = L.filter (fun e => !gone cut e) from by unfold stayL; rw [if_pos hva], show goneL L cut = L.filter (gone cut) from by unfold goneL; rw [if_pos hva]]
    rw [hva] at HV
    clear hva
    have hend1 : ∀ W v, W.ownsRow w.heap.size 28 6 v ((L.take len).filter (fun e => !gone cut e)).length (ents ((L.take len).filter (fun e => !gone cut e))) → ∃ a n c, v = .slice a n c ∧ EList W (Plus F w.heap.size) a n c (L.filter (fun e => !gone cut e)) := fun W v h => by
      obtain ⟨-, a9, c9, h9, hl9⟩ := owns_ents (F := Plus F w.heap.size) h (fun b hb => .inr (h.lt b hb).1)
      rw [List.take_of_length_le (by omega)] at h9 hl9
      exact ⟨_, _, _, h9, hl9⟩
    have hend2 : ∀ W v, W.ownsRow w.heap.size 28 6 v ((L.take len).filter (gone cut)).length (ents ((L.take len).filter (gone cut))) → ∃ a n c, v = .slice a n c ∧ EList W (Plus F w.heap.size) a n c (L.filter (gone cut)) := fun W v h => by
      obtain ⟨-, a9, c9, h9, hl9⟩ := owns_ents (F := Plus F w.heap.size) h (fun b hb => .inr (h.lt b hb).1)
      rw [List.take_of_length_le (by omega)] at h9 hl9
      exact ⟨_, _, _, h9, hl9⟩
    have HE1 := Lib.hid hend1
    have HE2 := Lib.hid hend2
    have HN1 := Lib.hid (fun j e (h : L[j]? = some e) => filter_next h (fun e => !gone cut e))
    have HN2 := Lib.hid (fun j e (h : L[j]? = some e) => filter_next h (gone cut))
    have hb0 : ∀ j, ((L.take j).filter (fun e => !gone cut e)).length ≤ 900000 := fun j => Nat.le_trans (List.length_filter_le _ _) (by rw [List.length_take]; omega)
    have hb1' : ∀ j, ((L.take j).filter (gone cut)).length ≤ 900000 := fun j => Nat.le_trans (List.length_filter_le _ _) (by rw [List.length_take]; omega)
    have HB0 := Lib.hid hb0
    have HB1 := Lib.hid hb1'
    clear hend1 hend2 hb0 hb1'
    have hs0 : ([] : List Ent) = (L.take 0).filter (fun e => !gone cut e) := by simp
    have hs1 : ([] : List Ent) = (L.take 0).filter (gone cut) := by simp
    have HS0 := Lib.hid hs0
    have HS1 := Lib.hid hs1
    clear hs0 hs1
    go_enter Try.func53, Try.ntmps53
    go_wp2_with (first
      | (go_at_call 50; ((with_reducible refine (HV.out _ hw).mono ?_); rintro e9 w1 ⟨rfl, hb1⟩)))
    go_loopw [6, 7, 8] (fun v u c wr => ∃ j : Nat, c = .int .i64 (j : Int) ∧ j ≤ len ∧ wr.ownsRow w.heap.size 28 6 v ((L.take j).filter (fun e => !gone cut e)).length (ents ((L.take j).filter (fun e => !gone cut e))) ∧ wr.ownsRow w.heap.size 28 6 u ((L.take j).filter (gone cut)).length (ents ((L.take j).filter (gone cut))) ∧ Apart v u ∧ Below w.heap.size w wr) (fun _ _ c _ => len - (intOf c).toNat)
    case atStart => exact ⟨0, rfl, by omega, (by rw [← HS0.out]; exact World.ownsRow_nil _ _ _ _), (by rw [← HS1.out]; exact World.ownsRow_nil _ _ _ _), (fun b h9 _ => absurd h9 (by simp [Value.ownBlock])), hb1⟩
    case round =>
      obtain ⟨j, rfl, hj, hv, hu, hap, hb⟩ := hrel
      by_cases hlt : j < len
      · obtain ⟨x, e, rfl, he, hat⟩ := HAT.out wr hb j hlt
        have hjI : (j : Int) < (len : Int) := by omega
        have N1 := HN1.out j e he
        have N2 := HN2.out j e he
        have B0 := HB0.out j
        have B1 := HB1.out j
        generalize (L.take j).filter (fun e => !gone cut e) = S at *
        generalize (L.take j).filter (gone cut) = G at *
        have hxb := hat.lt
        obtain ⟨eb, ek, ev, em, ez, eo⟩ := e
        have hgc : gone cut ⟨eb, ek, ev, em, ez, eo⟩ = (decide (ek = 2) && decide (ev < cut)) := rfl
        rw [hgc] at N1 N2
        obtain ⟨c0, c1, c2, c3, c4, c5⟩ := hat
        try simp only at c0 c1 c2 c3 c4 c5
        have q1 := hb.alloc hb.size (entRow eb ek ev em ez eo)
        have hv1 := e_owns_on hv ((Below.refl _ _).alloc (Nat.le_refl _) (entRow eb ek ev em ez eo))
        have hu1 := e_owns_on hu ((Below.refl _ _).alloc (Nat.le_refl _) (entRow eb ek ev em ez eo))
        clear he hgc
        by_cases hg : ek = 2 ∧ ev < cut
        · have t1 : (ek == 2) = true := by simpa using hg.1
          have t2 : decide (ev < cut) = true := by simpa using hg.2
          have t3 := hg.2
          rw [decide_eq_true hg.1, t2] at N1 N2
          have HN1' := Lib.hid N1
          have HN2' := Lib.hid N2
          clear N1 N2 hg
          go_wp2_with (first
            | (at_builtin; refine append_ent rfl (.tmp 33) (.tmp 38) rfl w.heap.size _ _ G rfl hu1 wr.heap.size ⟨eb, ek, ev, em, ez, eo⟩ rfl (heap_alloc_new wr (entRow eb ek ev em ez eo)) B1 q1.size ?_; intro g9 k9 w9 hown9 hgrow9 hat9))
          have b9 := q1.grown hgrow9 q1.size (fun z9 h9 => (hu.lt z9 h9).1)
          have hv9 := owns_apart hv1 hap hgrow9
          have hap9 := fun n' c' => apart_next (n' := n') (c' := c') hv1 hap hat9 (Nat.le_refl _)
          clear hgrow9 hat9
          rw [show S ++ (if (!(true && true)) = true then [(⟨eb, ek, ev, em, ez, eo⟩ : Ent)] else []) = S from List.append_nil _] at HN1'
          go_roundw
          case rel => exact ⟨j + 1, by go_num, by omega, by rw [HN1'.out]; exact hv9, by rw [HN2'.out, List.length_append]; exact hown9, hap9 _ _, b9⟩
          case measure => simp [intOf]; omega
        · have hgf : (decide (ek = 2) && decide (ev < cut)) = false := by
            cases h2 : (decide (ek = 2) && decide (ev < cut))
            · rfl
            · rw [Bool.and_eq_true, decide_eq_true_eq, decide_eq_true_eq] at h2
              exact absurd h2 hg
          rw [hgf] at N1 N2
          have HN1' := Lib.hid N1
          have HN2' := Lib.hid N2
          clear N1 N2 hgf
          have hor : ((ek == 2) = true ∧ decide (ev < cut) = false) ∨ (ek == 2) = false := by
            by_cases h2 : ek = 2
            · exact .inl ⟨by simpa using h2, by have : ¬ ev < cut := fun h => hg ⟨h2, h⟩
                                                simpa using this⟩
            · exact .inr (by simpa using h2)
          clear hg
          rw [show G ++ (if (false : Bool) = true then [(⟨eb, ek, ev, em, ez, eo⟩ : Ent)] else []) = G from List.append_nil _] at HN2'
          rcases hor with ⟨t1, t2⟩ | t1
          all_goals
            go_wp2_with (first
              | (at_builtin; refine append_ent rfl (.tmp 40) (.tmp 45) rfl w.heap.size _ _ S rfl hv1 wr.heap.size ⟨eb, ek, ev, em, ez, eo⟩ rfl (heap_alloc_new wr (entRow eb ek ev em ez eo)) B0 q1.size ?_; intro g9 k9 w9 hown9 hgrow9 hat9))
            have b9 := q1.grown hgrow9 q1.size (fun z9 h9 => (hv.lt z9 h9).1)
            have hu9 := owns_apart hu1 hap.symm hgrow9
            have hap9 := fun n' c' => (apart_next (n' := n') (c' := c') hu1 hap.symm hat9 (Nat.le_refl _)).symm
            clear hgrow9 hat9
            go_roundw
            case rel => exact ⟨j + 1, by go_num, by omega, by rw [HN1'.out, List.length_append]; exact hown9, by rw [HN2'.out]; exact hu9, hap9 _ _, b9⟩
            case measure => simp [intOf]; omega
      · obtain rfl : j = len := by omega
        obtain ⟨a1, n1, k1, rfl, l1⟩ := HE1.out _ _ hv
        obtain ⟨a2, n2, k2, rfl, l2⟩ := HE2.out _ _ hu
        clear hv hu hap
        go_wp2_with fail
        go_ret2
        exact ⟨_, _, _, _, _, _, rfl, l1, l2, hb⟩
end Go.Proofs.Ytljobnfilnbefaa.Ents

/- The walk of the document's Same, for equal lists. -/
namespace Go.Proofs.Ytljobnfilnbefaa.Ents
open Go.RowKit Plan EntMath
set_option maxHeartbeats 2000000 in
set_option maxRecDepth 20000 in
theorem refSame_any (F G : Nat → Prop) (L : List Ent) (a b : Option Addr) (n c d : Nat) (m : Nat) (w : World) (hl : EList w F a n c L) (hk : EList w G b m d L) :
    Calls Try.prog 25 #[.slice a n c, .slice b m d] w fun r w' => r = .returned (.bool true) ∧ Below w.heap.size w w' := by
  have hlen := hl.length
  obtain rfl : n = m := hlen.symm.trans hk.length
  have hmx : n ≤ maxLen := Nat.le_trans hl.cap.1 hl.cap.2
  unfold maxLen at hmx
  have ha := fun W (h : Below w.heap.size w W) i (hi : i < n) => (hl.low.on (Same.low h)).ent i hi
  have hb := fun W (h : Below w.heap.size w W) i (hi : i < n) => (hk.low.on (Same.low h)).ent i hi
  have HA := Lib.hid ha
  have HB := Lib.hid hb
  clear ha hb hl hk
  go_enter Try.func25, Try.ntmps25
  go_wp2_with fail
  go_loopw [5] (fun c wr => ∃ j : Nat, c = .int .i64 (j : Int) ∧ j ≤ n ∧ Below w.heap.size w wr) (fun c _ => n - (intOf c).toNat)
  case atStart => exact ⟨0, rfl, by omega, Below.refl _ _⟩
  case round =>
    obtain ⟨j, rfl, hj, hb⟩ := hrel
    by_cases hlt : j < n
    · obtain ⟨x, e, rfl, he, hat⟩ := HA.out wr hb j hlt
      obtain ⟨y, f, rfl, hf, haf⟩ := HB.out wr hb j hlt
      rw [he] at hf
      obtain rfl := Option.some.inj hf
      have hjI : (j : Int) < (n : Int) := by omega
      clear hf he
      obtain ⟨eb, ek, ev, em, ez, eo⟩ := e
      try simp only at hat haf
      go_wp2_with fail
      refine Plan.start (fun W => EntAt W x j ⟨eb, ek, ev, em, ez, eo⟩ ∧ EntAt W y j ⟨eb, ek, ev, em, ez, eo⟩) [(0, true), (1, true), (2, true), (3, true), (4, true), (5, true), (6, true), (7, true), (8, true)] (by kernel_rfl) (by kernel_rfl) (by kernel_rfl) (by kernel_rfl) ⟨hat, haf⟩ ?_
      simp only [List.map_cons, List.map_nil, List.getElem?_toArray, List.getElem?_cons_zero, List.getElem?_cons_succ]
      repeat (first | (refine Plan.take ?_ (by rfl) ?_ ?_; rotate_left; (· rintro w9 ⟨⟨u0, u1, u2, u3, u4, u5⟩, ⟨v0, v1, v2, v3, v4, v5⟩⟩; go_simp; (try rw [if_neg (by omega)]); all_goals (with_reducible rfl)); simp only [Act.put, List.setIfInBounds_toArray, List.set_cons_zero, List.set_cons_succ]) | (refine Plan.pass (by rfl) ?_; simp only [Act.put, List.setIfInBounds_toArray, List.set_cons_zero, List.set_cons_succ]))
      refine Plan.ends ?_
      have b9 := hb.drew
      clear hat haf
      go_wp2_with fail
      go_roundw
      case rel => exact ⟨j + 1, by go_num, by omega, b9⟩
      case measure => simp [intOf]; omega
    · obtain rfl : j = n := by omega
      go_wp2_with fail
      go_ret
      exact ⟨rfl, hb⟩
end Go.Proofs.Ytljobnfilnbefaa.Ents

/- Maps in memory: lists of lists of entries, in the blocks of a set. -/
namespace Go.Proofs.Ytljobnfilnbefaa.Ents
open Go.RowKit Plan EntMath
abbrev mapV (a : Option Addr) (n c : Nat) : Value := .agg #[.slice a n c]
abbrev mapRow (a : Option Addr) (n c : Nat) : Obj := .cells #[.slice a n c] 24
/-- a list of lists of entries -/
def MList (w : World) (F : Nat → Prop) (a : Option Addr) (n c : Nat) (Ls : List (List Ent)) : Prop :=
  (a = none ∧ n = 0 ∧ c = 0 ∧ Ls = []) ∨
  ∃ x, a = some x ∧ n ≤ c ∧ c ≤ maxLen ∧ Ls.length = n ∧ x.block < w.heap.size ∧ F x.block ∧ ∀ i L, Ls[i]? = some L → ∃ b m k, w.cell? (x.add i) = some (.slice b m k) ∧ EList w F b m k L
theorem MList.nil (w : World) (F : Nat → Prop) : MList w F none 0 0 [] := .inl ⟨rfl, rfl, rfl, rfl⟩
theorem MList.length {w : World} {F : Nat → Prop} {a : Option Addr} {n c : Nat} {Ls : List (List Ent)} (h : MList w F a n c Ls) : Ls.length = n := by
  rcases h with ⟨_, rfl, _, rfl⟩ | ⟨x, _, _, _, h4, _⟩
  · rfl
  · exact h4
theorem MList.cap {w : World} {F : Nat → Prop} {a : Option Addr} {n c : Nat} {Ls : List (List Ent)} (h : MList w F a n c Ls) : n ≤ c ∧ c ≤ maxLen := by
  rcases h with ⟨_, rfl, rfl, rfl⟩ | ⟨x, _, h2, h3, _⟩
  · exact ⟨Nat.le_refl _, Nat.zero_le _⟩
  · exact ⟨h2, h3⟩
theorem MList.on {F : Nat → Prop} {w w' : World} {a : Option Addr} {n c : Nat} {Ls : List (List Ent)} (h : MList w F a n c Ls) (hw : Same F w w') : MList w' F a n c Ls := by
  rcases h with h | ⟨x, h1, h2, h3, h4, h5, h6, h7⟩
  · exact .inl h
  · refine .inr ⟨x, h1, h2, h3, h4, Nat.lt_of_lt_of_le h5 hw.1, h6, fun i L hi => ?_⟩
    obtain ⟨b, m, k, hc, hl⟩ := h7 i L hi
    exact ⟨b, m, k, hw.cell (by rw [ent_add_block]; exact h6) hc, hl.on hw⟩
theorem MList.mono {F G : Nat → Prop} {w : World} {a : Option Addr} {n c : Nat} {Ls : List (List Ent)} (h : MList w F a n c Ls) (hFG : ∀ b, b < w.heap.size → F b → G b) : MList w G a n c Ls := by
  rcases h with h | ⟨x, h1, h2, h3, h4, h5, h6, h7⟩
  · exact .inl h
  · refine .inr ⟨x, h1, h2, h3, h4, h5, hFG _ h5 h6, fun i L hi => ?_⟩
    obtain ⟨b, m, k, hc, hl⟩ := h7 i L hi
    exact ⟨b, m, k, hc, hl.mono hFG⟩
theorem MList.cut {F : Nat → Prop} {w : World} {a : Option Addr} {n c : Nat} {Ls : List (List Ent)} (h : MList w F a n c Ls) : MList w (fun b => F b ∧ b < w.heap.size) a n c Ls := h.mono fun _ hb hf => ⟨hf, hb⟩
theorem MList.low {F : Nat → Prop} {w : World} {a : Option Addr} {n c : Nat} {Ls : List (List Ent)} (h : MList w F a n c Ls) : MList w (fun b => b < w.heap.size) a n c Ls := h.mono fun _ hb _ => hb
theorem MList.at' {w : World} {F : Nat → Prop} {a : Option Addr} {n c : Nat} {Ls : List (List Ent)} (h : MList w F a n c Ls) (i : Nat) (hi : i < n) : ∃ x L b m k, a = some x ∧ Ls[i]? = some L ∧ w.cell? (x.add i) = some (.slice b m k) ∧ EList w F b m k L := by
  have hl := h.length
  rcases h with ⟨_, rfl, _, _⟩ | ⟨x, h1, _, _, _, _, _, h7⟩
  · omega
  · have he : Ls[i]? = some (Ls[i]'(by omega)) := List.getElem?_eq_getElem _
    obtain ⟨b, m, k, hc, hle⟩ := h7 i _ he
    exact ⟨x, _, b, m, k, h1, he, hc, hle⟩
theorem MList.same {F : Nat → Prop} {w w' : World} {a : Option Addr} {n c : Nat} {Ls : List (List Ent)} (h : MList w F a n c Ls) (hb : Below w.heap.size w w') : MList w' (fun b => b < w.heap.size) a n c Ls := h.low.on (Same.low hb)
theorem m_i {a b : Int} (h : a = b) : Ending.returned (.int .i64 a) = .returned (.int .i64 b) := by rw [h]
theorem map_info : (Try.prog.info? 24).map (·.size) = some 1 := by kernel_rfl
theorem map_row {w : World} {g : Nat} {a : Value} {t : TypeId} {fr : Nat × Nat} (h : w.heap[g]? = some (.cells #[a] t fr)) : w.cell? ⟨g, 0, none⟩ = some a := cell_of_row _ _ 0 _ _ _ h
set_option maxHeartbeats 1000000 in
theorem refStripe_any (Ls : List (List Ent)) (b : Int) (a : Option Addr) (n c : Nat) (w : World) (hn : Ls.length = n) :
    Calls Try.prog 30 #[mapV a n c, .int .i64 b] w fun r w' => r = .returned (.int .i64 (stripe Ls b)) ∧ Below w.heap.size w w' := by
  have hy : (b < 0 ∨ n = 0) → stripe Ls b = -1 := fun h => by unfold stripe; rw [hn, if_pos h]
  have hz : 0 ≤ b → n ≠ 0 → stripe Ls b = b % (n : Int) := fun h1 h2 => by unfold stripe; rw [hn, if_neg (by omega)]
  generalize stripe Ls b = S at *
  have HY := Lib.hid hy
  have HZ := Lib.hid hz
  clear hy hz
  have hA := (Below.refl w.heap.size w).alloc (Nat.le_refl _) (mapRow a n c)
  by_cases h1 : b < 0
  · go_enter Try.func30, Try.ntmps30
    go_wp2
    go_ret
    exact ⟨by rw [HY.out (.inl h1)]; rfl, hA⟩
  · by_cases h2 : n = 0
    · subst h2
      go_enter Try.func30, Try.ntmps30
      go_wp2
      go_ret
      exact ⟨by rw [HY.out (.inr (by trivial))]; rfl, hA⟩
    · have h3 : ((n : Int) == 0) = false := by simp; omega
      have h4 : (n == 0) = false := by simpa using h2
      have h5 : ¬ (n : Int) = 0 := by omega
      go_enter Try.func30, Try.ntmps30
      go_wp2
      go_ret
      exact ⟨m_i (HZ.out (by omega) h2).symm, hA⟩
end Go.Proofs.Ytljobnfilnbefaa.Ents

/- The walk of the document's Valid of a map. -/
namespace Go.Proofs.Ytljobnfilnbefaa.Ents
open Go.RowKit Plan EntMath
theorem okShard_no {n i : Nat} {L : List Ent} (h : validB L = false) : okShard n i L = false := by unfold okShard; rw [h]; rfl
theorem okShard_bad {n i : Nat} {L : List Ent} {e : Ent} {j : Nat} (he : L[j]? = some e) (h : ¬ e.block % (n : Int) = (i : Int)) : okShard n i L = false := by
  cases ho : okShard n i L
  · rfl
  · exact absurd ((okShard_iff.1 ho).2 e (List.mem_of_getElem? he)) h
theorem okShard_yes {n i : Nat} {L : List Ent} (hv : validB L = true) (h : ∀ (j : Nat) (e : Ent), L[j]? = some e → e.block % (n : Int) = (i : Int)) : okShard n i L = true :=
  okShard_iff.2 ⟨hv, fun e he => by obtain ⟨j, hj⟩ := List.mem_iff_getElem?.1 he; exact h j e hj⟩
theorem pin {wr : World} {F : Nat → Prop} {x : Addr} {i m k : Nat} {b : Option Addr} {L : List Ent} (hc : wr.cell? (x.add i) = some (.slice b m k)) (hle : EList wr F b m k L) (W : World) (h : Below wr.heap.size wr W) : W.cell? (x.add i) = some (.slice b m k) ∧ EList W (fun b => b < wr.heap.size) b m k L :=
  ⟨(h.cell (World.block_lt_of_cell? wr _ hc)).trans hc, (hle.mono (fun _ hb _ => hb)).on (Same.low h)⟩
set_option maxHeartbeats 8000000 in
set_option maxRecDepth 20000 in
theorem refValidM_any (F : Nat → Prop) (Ls : List (List Ent)) (a : Option Addr) (n c : Nat) (w : World) (hl : MList w F a n c Ls) :
    Calls Try.prog 28 #[mapV a n c] w fun r w' => r = .returned (.bool (validM Ls)) ∧ Below w.heap.size w w' := by
  have hlen := hl.length
  have hcp := hl.cap
  unfold maxLen at hcp
  have hA := (Below.refl w.heap.size w).alloc (Nat.le_refl _) (mapRow a n c)
  have hr0 := heap_alloc_new w (mapRow a n c)
  have HAT := Lib.hid (fun W (h : Below w.heap.size w W) i (hi : i < n) => (hl.same h).at' i hi)
  have hno := @validM_no Ls
  have hbad := fun i L h1 h2 => @validM_bad Ls i L h1 h2
  have hall := @validM_all Ls
  rw [hlen] at hno hbad hall
  generalize validM Ls = R at *
  have HNO := Lib.hid hno
  have HBAD := Lib.hid hbad
  have HALL := Lib.hid hall
  clear hno hbad hall hl
  by_cases hn : 1 ≤ n ∧ n ≤ 8
  · obtain ⟨hn1, hn2⟩ := hn
    have hn1I : ¬ (n : Int) < 1 := by omega
    have hn2I : ¬ (8 : Int) < (n : Int) := by omega
    have hn1d : decide ((n : Int) < 1) = false := by simpa using hn1I
    have hn2d : decide ((8 : Int) < (n : Int)) = false := by simpa using hn2I
    have hn3d : decide (8 < n) = false := by simp; omega
    have hn0 : ¬ (n : Int) = 0 := by omega
    have hn0b : ((n : Int) == 0) = false := by simp; omega
    go_enter Try.func28, Try.ntmps28
    have hcr := map_row hr0
    generalize hw0 : w.alloc (mapRow a n c) = w0 at *
    go_wp2_with fail
    go_loopw [4] (fun x wr => ∃ i : Nat, x = .int .i64 (i : Int) ∧ i ≤ n ∧ RowKit.Hid (∀ t, t < i → okShard n t (Ls.getD t []) = true) ∧ wr.heap[w.heap.size]? = some (mapRow a n c) ∧ Below w.heap.size w wr) (fun x _ => n - (intOf x).toNat)
    case atStart => exact ⟨0, rfl, by omega, Lib.hid (fun i h => absurd h (Nat.not_lt_zero _)), hr0, hA⟩
    case round =>
      clear hcr hr0 hA
      obtain ⟨i, rfl, hi, hok, hr, hb⟩ := hrel
      have hcr := map_row hr
      by_cases hlt : i < n
      · obtain ⟨x, L, b, m, k, rfl, hL, hc, hle⟩ := HAT.out wr hb i hlt
        have hiI : (i : Int) < (n : Int) := by omega
        have HV := Lib.hid (refValid_any _ L b m k wr hle)
        have HPIN := Lib.hid (pin hc hle)
        have hml := hle.length
        have hmc := hle.cap
        unfold maxLen at hmc
        have HOK := Lib.hid hok.out
        have hnx := Lib.hid (fun (h : okShard n i L = true) t (ht : t < i + 1) => (show okShard n t (Ls.getD t []) = true from by
          rcases Nat.lt_or_ge t i with h1 | h1
          · exact hok.out t h1
          · obtain rfl : t = i := by omega
            rw [getD_of hL]
            exact h))
        cases hva : validB L
        · have hR := Lib.hid (HBAD.out i L hL (okShard_no hva))
          rw [hva] at HV
          clear hle hL hok
          go_wp2_with (first
            | (go_at_call 50; ((with_reducible refine HV.out.mono ?_); rintro e9 w1 ⟨rfl, hb1⟩; have b1 := hb.trans (hb1.mono hb.size))))
          go_ret
          exact ⟨by rw [hR.out]; rfl, b1⟩
        · rw [hva] at HV
          have hbs := (valid_iff.1 hva).1
          have HYES := Lib.hid (@okShard_yes n i L hva)
          have HNOT := Lib.hid (fun j e (he : L[j]? = some e) h => HBAD.out i L hL (okShard_bad (n := n) (i := i) he h))
          have HPOS := Lib.hid (fun j e (he : L[j]? = some e) => (ok_iff.1 (hbs e (List.mem_of_getElem? he))).2.2.2.2.2.1)
          clear hle hL hok hbs hva
          go_wp2_with (first
            | (go_at_call 50; ((with_reducible refine HV.out.mono ?_); rintro e9 w1 ⟨rfl, hb1⟩; have b1 := hb.trans (hb1.mono hb.size); have hr1 := e_on hb1 hr (e_lt hr); have HAT1 := Lib.hid (fun W (h : Below w1.heap.size w1 W) => HPIN.out W (hb1.trans (h.mono hb1.size))))))
          clear hc hcr hr
          go_loopw [5] (fun y wz => ∃ j : Nat, y = .int .i64 (j : Int) ∧ j ≤ m ∧ RowKit.Hid (∀ (t : Nat) (e : Ent), t < j → L[t]? = some e → e.block % (n : Int) = (i : Int)) ∧ wz.heap[w.heap.size]? = some (mapRow (some x) n c) ∧ Below w1.heap.size w1 wz) (fun y _ => m - (intOf y).toNat)
          case atStart => exact ⟨0, rfl, by omega, Lib.hid (fun t e h => absurd h (Nat.not_lt_zero _)), hr1, Below.refl _ _⟩
          case round =>
            obtain ⟨j, rfl, hj, hbf, hr2, hb2⟩ := hrel
            have hcr2 := map_row hr2
            obtain ⟨hc2, hle2⟩ := HAT1.out wr hb2
            have b2 := b1.trans (hb2.mono b1.size)
            by_cases hltj : j < m
            · obtain ⟨y, e, rfl, he, hat⟩ := hle2.ent j hltj
              have hp := HPOS.out j e he
              have hjI : (j : Int) < (m : Int) := by omega
              have HN1 := Lib.hid (HNOT.out j e he)
              have HN2 := Lib.hid (fun (h0 : e.block % (n : Int) = (i : Int)) (t : Nat) (z : Ent) (ht : t < j + 1) (h : L[t]? = some z) => (show z.block % (n : Int) = (i : Int) from by
                rcases Nat.lt_or_ge t j with h1 | h1
                · exact hbf.out t z h1 h
                · obtain rfl : t = j := by omega
                  rw [he] at h
                  obtain rfl := Option.some.inj h
                  exact h0))
              clear he hle2
              obtain ⟨eb, ek, ev, em, ez, eo⟩ := e
              try simp only at hp hat HN1 HN2
              obtain ⟨c0, -⟩ := hat
              by_cases h0 : eb % (n : Int) = (i : Int)
              · have t0 : (eb % (n : Int) != (i : Int)) = false := by simpa using h0
                have HN3 := Lib.hid (HN2.out h0)
                clear h0
                go_wp2_with fail
                go_roundw
                case rel => exact ⟨j + 1, by go_num, by omega, HN3, hr2, hb2⟩
                case measure => simp [intOf]; omega
              · have t0 : (eb % (n : Int) != (i : Int)) = true := by simpa using h0
                have hR := Lib.hid (HN1.out h0)
                clear h0
                go_wp2_with fail
                go_ret
                exact ⟨by rw [hR.out]; rfl, b2⟩
            · have hjI : ¬ (j : Int) < (m : Int) := by omega
              have hS := Lib.hid (hnx.out (HYES.out (fun t z h => hbf.out t z (by have := (List.getElem?_eq_some_iff.1 h).1; omega) h)))
              clear hle2
              go_wp2_with fail
              go_roundw
              case rel => exact ⟨i + 1, by go_num, by omega, hS, hr2, b2⟩
              case measure => simp [intOf]; omega
      · obtain rfl : i = n := by omega
        have hR := Lib.hid (HALL.out hn1 hn2 (fun t ht => hok.out t (by omega)))
        go_wp2_with fail
        go_ret
        exact ⟨by rw [hR.out]; rfl, hb⟩
  · have hR := Lib.hid (HNO.out hn)
    rcases (show n < 1 ∨ 8 < n by omega) with h1 | h1
    · have h2 : (n : Int) < 1 := by omega
      go_enter Try.func28, Try.ntmps28
      have hcr := map_row hr0
      go_wp2_with fail
      go_ret
      exact ⟨by rw [hR.out]; rfl, hA⟩
    · have h2 : ¬ (n : Int) < 1 := by omega
      have h3 : (8 : Int) < (n : Int) := by omega
      go_enter Try.func28, Try.ntmps28
      have hcr := map_row hr0
      go_wp2_with fail
      go_ret
      exact ⟨by rw [hR.out]; rfl, hA⟩
end Go.Proofs.Ytljobnfilnbefaa.Ents

/- The walk of the document's with: a map with another shard. -/
namespace Go.Proofs.Ytljobnfilnbefaa.Ents
open Go.RowKit Plan EntMath
theorem sl_info : (Try.prog.info? 49).map (fun i => (i.zero, i.size, i.bytes)) = some (some (.slice none 0 0), 1, 24) := by kernel_rfl
/-- the cells of a list of lists -/
def MCells (w : World) (F : Nat → Prop) (C : List Value) (Ls : List (List Ent)) : Prop := C.length = Ls.length ∧ ∀ (i : Nat) (L : List Ent), Ls[i]? = some L → ∃ b m k, C[i]? = some (.slice b m k) ∧ EList w F b m k L
theorem MCells.on {w w' : World} {F : Nat → Prop} {C : List Value} {Ls : List (List Ent)} (h : MCells w F C Ls) (hw : Same F w w') : MCells w' F C Ls :=
  ⟨h.1, fun i L hi => by obtain ⟨b, m, k, h1, h2⟩ := h.2 i L hi; exact ⟨b, m, k, h1, h2.on hw⟩⟩
theorem MCells.mono {w : World} {F G : Nat → Prop} {C : List Value} {Ls : List (List Ent)} (h : MCells w F C Ls) (hFG : ∀ b, b < w.heap.size → F b → G b) : MCells w G C Ls :=
  ⟨h.1, fun i L hi => by obtain ⟨b, m, k, h1, h2⟩ := h.2 i L hi; exact ⟨b, m, k, h1, h2.mono hFG⟩⟩
theorem MCells.set {w : World} {F : Nat → Prop} {C : List Value} {Ls : List (List Ent)} (h : MCells w F C Ls) {i : Nat} {b : Option Addr} {m k : Nat} {L : List Ent} (hi : i < Ls.length) (hL : EList w F b m k L) : MCells w F (C.set i (.slice b m k)) (Ls.set i L) := by
  refine ⟨by simp [h.1], fun j M hj => ?_⟩
  rw [List.getElem?_set] at hj ⊢
  by_cases hij : i = j
  · subst hij
    rw [if_pos rfl, if_pos hi] at hj
    obtain rfl := Option.some.inj hj
    exact ⟨b, m, k, by rw [if_pos rfl, if_pos (by rw [h.1]; exact hi)], hL⟩
  · rw [if_neg hij] at hj ⊢
    exact h.2 j M hj
theorem MCells.flat {w : World} {F : Nat → Prop} {C : List Value} {Ls : List (List Ent)} (h : MCells w F C Ls) : ∀ u ∈ C, u.oneCell' = true := by
  intro u hu
  obtain ⟨i, hi, rfl⟩ := List.mem_iff_getElem.1 hu
  obtain ⟨b, m, k, h1, -⟩ := h.2 i _ (List.getElem?_eq_getElem (by rw [← h.1]; exact hi))
  rw [List.getElem?_eq_getElem hi] at h1
  rw [Option.some.inj h1]
  rfl
theorem MList.cells {w : World} {F : Nat → Prop} {x : Addr} {n c : Nat} {Ls : List (List Ent)} (h : MList w F (some x) n c Ls) : ∃ C, MCells w F C Ls ∧ ∀ j u, C[j]? = some u → w.cell? (x.add j) = some u := by
  rcases h with ⟨h, _⟩ | ⟨y, h1, _, _, h4, _, _, h7⟩
  · cases h
  · obtain rfl := Option.some.inj h1
    refine ⟨(List.range n).map fun i => (w.cell? (x.add i)).getD undef, ⟨by simp [h4], fun i L hi => ?_⟩, fun j u hu => ?_⟩
    · obtain ⟨b, m, k, hc, hl⟩ := h7 i L hi
      have hin : i < n := by have := (List.getElem?_eq_some_iff.1 hi).1; omega
      refine ⟨b, m, k, ?_, hl⟩
      rw [List.getElem?_map, List.getElem?_range hin]
      simp [hc]
    · have hj : j < n := by have := (List.getElem?_eq_some_iff.1 hu).1; simpa using this
      rw [List.getElem?_map, List.getElem?_range hj] at hu
      obtain ⟨b, m, k, hc, -⟩ := h7 j _ (List.getElem?_eq_getElem (by omega))
      simp only [Option.map_some, hc, Option.getD_some] at hu
      rw [hc]
      exact hu
theorem own_mlist {w : World} {B g n c : Nat} {F : Nat → Prop} {C : List Value} {Ls : List (List Ent)} (h : w.ownsRow B 49 1 (.slice (some ⟨g, 0, none⟩) n c) n C) (hc : MCells w F C Ls) (hF : F g) : MList w F (some ⟨g, 0, none⟩) n c Ls := by
  have hn : Ls.length = n := by have := h.1; rw [← hc.1, this, Nat.mul_one]
  have hce := h.cells (g := g) rfl
  rcases h.2 with ⟨h, _⟩ | ⟨g', cap, cur, hv, hb, hg, h1, h2, _⟩
  · cases h
  · cases hv
    refine .inr ⟨_, rfl, h1, h2, hn, (Array.getElem?_eq_some_iff.1 hg).1, hF, fun i L hi => ?_⟩
    obtain ⟨b, m, k, h3, h4⟩ := hc.2 i L hi
    exact ⟨b, m, k, hce i _ h3, h4⟩
theorem slices_empty (w : World) {H : Nat} (hH : w.heap.size = H) : (w.alloc (.cells #[] 49)).ownsRow H 49 1 (.slice (some ⟨H, 0, none⟩) 0 0) 0 [] := by
  subst hH
  exact World.ownsRow_made (base := w.heap.size) (e := 49) (size := 1) w #[] 0 (Nat.le_refl _) (by unfold maxLen; decide) rfl
theorem sl_own_cell {w : World} {B g n cap : Nat} {C : List Value} (h : w.ownsRow B 49 1 (.slice (some ⟨g, 0, none⟩) n cap) n C) {j : Nat} (hj : j < n) : (∃ u, w.cell? ⟨g, j, none⟩ = some u) ∧ w.frozen? ⟨g, j, none⟩ = false := by
  have hl : C.length = n := by have := h.1; omega
  constructor
  · have := h.cells (g := g) rfl j C[j] (List.getElem?_eq_getElem _)
    rw [Addr.add_lit, Nat.zero_add] at this
    exact ⟨_, this⟩
  · rcases h.2 with ⟨h, _⟩ | ⟨g', cap', cur, hv, hb, hg, _⟩
    · cases h
    · cases hv
      simp [World.frozen?, hg]
set_option maxHeartbeats 2000000 in
set_option maxRecDepth 20000 in
theorem refWithM_any (F : Nat → Prop) (Ls : List (List Ent)) (a : Option Addr) (n c i : Nat) (L : List Ent) (b : Option Addr) (m k : Nat) (w : World) (hl : MList w F a n c Ls) (hi : i < n) (hL : EList w F b m k L) (hn : n ≤ 1000) :
    Calls Try.prog 37 #[mapV a n c, .int .i64 i, .slice b m k] w fun r w' => ∃ g c', r = .returned (mapV (some ⟨g, 0, none⟩) n c') ∧ MList w' (Plus F w.heap.size) (some ⟨g, 0, none⟩) n c' (Ls.set i L) ∧ Below w.heap.size w w' := by
  have hlen := hl.length
  obtain ⟨x, rfl⟩ : ∃ x, a = some x := by
    rcases hl with ⟨_, rfl, _, _⟩ | ⟨x, rfl, _⟩
    · omega
    · exact ⟨x, rfl⟩
  obtain ⟨i1, hi1, hy0, hy1, hy2⟩ := info_parts sl_info
  have hiI : (i : Int) < (n : Int) := by omega
  have hA := ((Below.refl w.heap.size w).alloc (Nat.le_refl _) (mapRow (some x) n c)).alloc (by simp) (mapRow none 0 0)
  have hr0 := e_al (heap_second w (mapRow (some x) n c) (mapRow none 0 0)) (.cells #[] 49)
  have hx0 := heap_first w (mapRow (some x) n c) (mapRow none 0 0)
  have hc0 := map_row hx0
  have hB := hA.alloc hA.size (.cells #[] 49)
  obtain ⟨C, hC, hC2'⟩ := hl.cells
  have hC2 := fun j u (hu : C[j]? = some u) => (hB.cell (World.block_lt_of_cell? w _ (hC2' j u hu))).trans (hC2' j u hu)
  have O3 := slices_empty ((w.alloc (mapRow (some x) n c)).alloc (mapRow none 0 0)) (H := w.heap.size + 1 + 1) (by simp only [World.size_alloc])
  have hCl : C.length = n := hC.1.trans hlen
  have HCN := Lib.hid (fun W (h : Below w.heap.size w W) => (show MCells W (fun b => F b ∧ b < w.heap.size) (C.set i (.slice b m k)) (Ls.set i L) from
    ((hC.mono (G := fun b => F b ∧ b < w.heap.size) fun _ hb hf => ⟨hf, hb⟩).set (by omega) (hL.mono fun _ hb hf => ⟨hf, hb⟩)).on (Same.below h)))
  have HC2 := Lib.hid hC2
  have HC3 := Lib.hid hC.flat
  have HO3 := Lib.hid O3
  have HB := Lib.hid hB
  have R0 := Lib.hid hr0
  clear hC2 hC2' hC O3 hl hL hr0
  go_enter Try.func37, Try.ntmps37
  go_wp2_with (first
    | (at_builtin; refine wpList_append_lies _ rfl _ _ 22 rfl (w.heap.size + 1 + 1) 49 i1 _ 1 24 Try.underlying22 hi1 hy0 hy1 hy2 rfl (by decide) _ 0 [] (by rfl) HO3.out x n c C rfl (by omega) HC2.out HC3.out (by omega) (by unfold maxLen; omega) (by omega) (by simp) _ rfl ?_; intro g7 c7 w7 hown7 hgrow7 hat7 hlt7; rw [Nat.zero_add, List.nil_append] at hown7; have hg7 := (hown7.lt g7 rfl).1; have b7 := HB.out.grown hgrow7 HB.out.size (fun z9 h9 => by have h8 := Option.some.inj (show some (w.heap.size + 1 + 1) = some z9 from h9); omega); have hr7 := (hgrow7.block (w.heap.size + 1) (by simp only [World.size_alloc]; omega) (fun h9 => by have h8 := Option.some.inj (show some _ = some (w.heap.size + 1 + 1) from h9); omega)).trans R0.out; obtain ⟨⟨u7, q7⟩, f7⟩ := sl_own_cell hown7 hi; have hr8 := (Below.heap_setCell w7 ⟨g7, i, none⟩ (.slice b m k) (w.heap.size + 1) (by show w.heap.size + 1 ≠ g7; omega)).trans hr7; have b8 := b7.setCell (show w.heap.size ≤ (⟨g7, i, none⟩ : Addr).block by show w.heap.size ≤ g7; omega) (.slice b m k); have O8 := e_owns_cell hown7 i (.slice b m k))
    | ((with_reducible refine Plan.store_lit 24 (.tmp 6) _ (w.heap.size + 1) ?_ hr8 ?_ ?_ ?_ ?_ ?_ ?_); rotate_left; (· rfl); (· rfl); (· exact map_info); (· rfl); (· simp [Value.oneCell']); simp only [Act.put]))
  have O9 := O8.kept (sm_setRow (w7.setCell ⟨g7, i, none⟩ (.slice b m k)) (w.heap.size + 1) #[.slice (some ⟨g7, 0, none⟩) n c7]) (.inr fun h9 => by have h8 := Option.some.inj (show some g7 = some (w.heap.size + 1) from h9); omega)
  have b9 := below_setRow b8 (show w.heap.size ≤ w.heap.size + 1 by omega) #[.slice (some ⟨g7, 0, none⟩) n c7]
  have M9 := own_mlist (F := Plus F w.heap.size) O9 ((HCN.out _ b9).mono (fun _ _ h => .inl h.1)) (.inr (by omega))
  exact bodyPost_ret (results_cell_row rfl _ _ _ _ _ _ _ rfl (setRow_heap _ _ _ _ _ _ hr8) Try.underlying24 rfl map_info) rfl ⟨_, _, rfl, M9, b9⟩
end Go.Proofs.Ytljobnfilnbefaa.Ents
