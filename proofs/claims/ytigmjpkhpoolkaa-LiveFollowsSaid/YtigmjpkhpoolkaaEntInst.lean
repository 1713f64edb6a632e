
/- The walk of the document's Install. -/
import Derived.Test.YtigmjpkhpoolkaaEntApp
namespace Go.Proofs.Ytigmjpkhpoolkaa.Ents
open Go.RowKit Plan EntMath
theorem inst_a {L : List Ent} {e : Ent} (h : validB L = false) : installL L e = [] ∧ installE L e = zeroE ∧ newer L e = false := by
  unfold installL installE newer
  simp [h]
theorem inst_b {L : List Ent} {e : Ent} (h : validB L = true) (h2 : okE e = false) : installL L e = L ∧ installE L e = zeroE ∧ newer L e = false := by
  unfold installL installE newer
  simp [h, h2]
theorem inst_c {L : List Ent} {e x : Ent} (h : validB L = true) (h2 : okE e = true) (hx : lookE L e.block = some x) (hv : e.version ≤ x.version) : installL L e = L ∧ installE L e = x ∧ newer L e = false := by
  have hd : ¬ x.version < e.version := by omega
  unfold installL installE newer
  simp [h, h2, hx, hd]
theorem inst_d {L : List Ent} {e : Ent} (h : validB L = true) (h2 : okE e = true) (hx : lookE L e.block = none) : installL L e = (L.take (place L e.block) ++ [e]) ++ L.drop (place L e.block) ∧ installE L e = zeroE ∧ newer L e = true := by
  have hi := ins_place e hx (valid_iff.1 h).2
  have hn : newer L e = true := by unfold newer; simp [h, h2, hx]
  refine ⟨?_, ?_, hn⟩
  · unfold installL; rw [if_pos h, if_pos hn, ← hi]; simp
  · unfold installE; rw [if_pos ⟨h, h2⟩, hx]; rfl
theorem inst_e {L : List Ent} {e x : Ent} (h : validB L = true) (h2 : okE e = true) (hx : lookE L e.block = some x) (hv : x.version < e.version) : installL L e = (L.take (place L e.block) ++ [e]) ++ L.drop (place L e.block + 1) ∧ installE L e = x ∧ newer L e = true := by
  have hi := ins_over e x hx (valid_iff.1 h).2
  have hn : newer L e = true := by unfold newer; simp [h, h2, hx, hv]
  refine ⟨?_, ?_, hn⟩
  · unfold installL; rw [if_pos h, if_pos hn, ← hi]; simp
  · unfold installE; rw [if_pos ⟨h, h2⟩, hx]; rfl
/-- what a function that gives a list, an entry and a yes or no leaves -/
def InstPost (w : World) (F : Nat → Prop) (L : List Ent) (E : Ent) (B : Bool) (r : Ending) (w' : World) : Prop :=
  ∃ a len cap, r = .returned (.tuple #[.slice a len cap, entV E, .bool B]) ∧ EList w' (Plus F w.heap.size) a len cap L ∧ Below w.heap.size w w'
/-- a plain result, a struct and a plain one -/
theorem results_tct {P : Program} {fn : Func} {p q r : Tmp} {ty : TypeId} (h : fn.results = #[.tmp p, .cell q ty, .tmp r]) (tmps : Array Value) (w : World) (g : Nat) (t : TypeId) (cs : Array Value) (fr : Nat × Nat) (d : TypeDesc)
    (hp : tmps.getD q undef = .pointer (some ⟨g, 0, none⟩)) (hg : w.heap[g]? = some (.cells cs t fr))
    (hu : P.underlying ty = some d) (hd : (match d with | .struct _ | .array _ _ => true | _ => false) = true) (hi : (P.info? ty).map (·.size) = some cs.size) :
    (results fn tmps).run P w = .ok (.tuple #[tmps.getD p undef, .agg cs, tmps.getD r undef]) w := by
  have hp' : tmps[q]?.getD undef = .pointer (some ⟨g, 0, none⟩) := by simpa using hp
  simp [results, h, hp', asAddr, run_loadVar_row w g t ty cs fr d hg hu hd hi]
theorem EList.low {w : World} {F : Nat → Prop} {a : Option Addr} {len cap : Nat} {L : List Ent} (h : EList w F a len cap L) : EList w (fun b => b < w.heap.size) a len cap L := h.mono fun _ hb _ => hb
theorem ents_empty (w : World) {H : Nat} (hH : w.heap.size = H) : (w.alloc (.cells #[] 28)).ownsRow H 28 6 (.slice (some ⟨H, 0, none⟩) 0 0) 0 (ents []) := by
  subst hH
  exact World.ownsRow_made (base := w.heap.size) (e := 28) (size := 6) w #[] 0 (Nat.le_refl _) (by unfold maxLen; decide) rfl
theorem e_owns_drew {w : World} {B sz n : Nat} {t : TypeId} {v : Value} {xs : List Value} (h : w.ownsRow B t sz v n xs) : w.drew.ownsRow B t sz v n xs := by
  refine h.kept (row := none) ⟨rfl, rfl, rfl, Nat.le_refl _, fun _ _ _ => rfl⟩ ?_
  cases v.ownBlock <;> simp
theorem sm_setRow (w : World) (x : Nat) (cs : Array Value) : w.grownBy (w.setRow x cs) (some x) :=
  ⟨rfl, rfl, rfl, Nat.le_of_eq (by simp [World.setRow]), fun i _ hne => setRow_other w x i cs (fun e => hne (by rw [e]))⟩
theorem EList.taken {w : World} {F : Nat → Prop} {a : Option Addr} {len cap : Nat} {L : List Ent} (h : EList w F a len cap L) (k : Nat) (hk : k ≤ len) : EList w F a k cap (L.take k) := by
  have hlen := h.length
  rcases h with ⟨h1, rfl, h3, rfl⟩ | ⟨x, h1, h2, h3, h4, h5, h6, h7⟩
  · exact .inl ⟨h1, by omega, h3, by simp⟩
  · refine .inr ⟨x, h1, by omega, h3, by rw [List.length_take]; omega, h5, h6, fun j u hu => h7 j u ?_⟩
    rw [ents_take] at hu
    have hj := (List.getElem?_eq_some_iff.1 hu).1
    rw [List.length_take] at hj
    rwa [List.getElem?_take, if_pos (by omega)] at hu
theorem EList.dropped {w : World} {F : Nat → Prop} {x : Addr} {len cap : Nat} {L : List Ent} (h : EList w F (some x) len cap L) (k : Nat) (hk : k ≤ len) : EList w F (if cap = k then some x else some (x.add (k * 6))) (len - k) (cap - k) (L.drop k) := by
  have hlen := h.length
  rcases h with ⟨_, rfl, rfl, rfl⟩ | ⟨y, h1, h2, h3, h4, h5, h6, h7⟩
  · obtain rfl : k = 0 := by omega
    rw [if_pos rfl]
    exact .inl ⟨trivial, rfl, rfl, rfl⟩
  · obtain rfl := Option.some.inj h1
    by_cases hc : cap = k
    · rw [if_pos hc]
      refine .inr ⟨x, rfl, by omega, by omega, by rw [List.length_drop]; omega, h5, h6, fun j u hu => ?_⟩
      rw [List.drop_of_length_le (by omega)] at hu
      simp [ents] at hu
    · rw [if_neg hc]
      refine .inr ⟨_, rfl, by omega, by omega, by rw [List.length_drop]; omega, by rw [ent_add_block]; exact h5, by rw [ent_add_block]; exact h6, fun j u hu => ?_⟩
      rw [ents_drop, List.getElem?_drop] at hu
      rw [Addr.add_add]
      exact h7 _ u hu
set_option maxHeartbeats 4000000 in
set_option maxRecDepth 20000 in
theorem refInstall_any (F : Nat → Prop) (L : List Ent) (e : Ent) (a : Option Addr) (len cap : Nat) (w : World) (hF : ∀ b, F b → b < w.heap.size) (hl : EList w F a len cap L) (hm : len ≤ 900000) :
    Calls Try.prog 15 #[.slice a len cap, entV e] w (InstPost w F (installL L e) (installE L e) (newer L e)) := by
  have hlen := hl.length
  have hA := ((Below.refl w.heap.size w).alloc (Nat.le_refl _) (entRow e.block e.kind e.version e.move e.zone e.offset)).alloc (by simp) (entRow 0 0 0 0 0 0)
  have hr0 := heap_second w (entRow e.block e.kind e.version e.move e.zone e.offset) (entRow 0 0 0 0 0 0)
  have hx0 := heap_first w (entRow e.block e.kind e.version e.move e.zone e.offset) (entRow 0 0 0 0 0 0)
  have hs0 : ((w.alloc (entRow e.block e.kind e.version e.move e.zone e.offset)).alloc (entRow 0 0 0 0 0 0)).heap.size = w.heap.size + 2 := by simp
  have hlow := fun W (h : Below w.heap.size w W) => hl.low.on (Same.low h)
  have hv := fun W h => refValid_any _ L a len cap W (hlow W h)
  have he := fun W => refEntry_any e W
  have hp := fun W h => refPlace_any _ L e.block a len cap W (hlow W h)
  have hfi := fun W h => refFind_any _ L e.block a len cap W (hlow W h)
  have hple := place_le L e.block
  rw [hlen] at hple
  have HV := Lib.hid hv
  have HE := Lib.hid he
  have HP := Lib.hid hp
  have HFI := Lib.hid hfi
  have HLOW := Lib.hid hlow
  have HL := Lib.hid hl
  have HF := Lib.hid hF
  clear hv he hp hfi hlow hF
  have hend := fun W (h : Below w.heap.size w W) (cs : Array Value) => (show EList (W.setRow (w.heap.size + 1) cs) (Plus F w.heap.size) a len cap L from
    ((hl.cut.on (Same.below (w' := W) ⟨h.os, h.tape, h.output, h.size, h.block⟩)).on (Same.row (r := w.heap.size + 1) (fun h9 => by have := h9.2; omega) cs)).mono (fun b _ h => .inl h.1))
  have HEND := Lib.hid hend
  clear hend hl
  cases hva : validB L
  · obtain ⟨r1, r2, r3⟩ := inst_a (e := e) hva
    rw [r1, r2, r3]
    rw [hva] at HV
    clear r1 r2 r3 hva
    obtain ⟨eb, ek, ev, em, ez, eo⟩ := e
    try simp only at HV HE HP HFI hA hr0 hx0 hs0
    go_enter Try.func15, Try.ntmps15
    generalize hw0 : (w.alloc (entRow eb ek ev em ez eo)).alloc (entRow 0 0 0 0 0 0) = w0 at *
    go_wp2_with (first
      | (go_at_call 31; ((with_reducible refine (HV.out _ hA).mono ?_); rintro e9 w1 ⟨rfl, hb1⟩; have hr1 := e_on hb1 hr0 (e_lt hr0); have hx1 := e_on hb1 hx0 (e_lt hx0); have b1 := hA.trans (hb1.mono hA.size)))
      | ((with_reducible refine Plan.store_lit 28 (.tmp 5) _ (w.heap.size + 1) ?_ hr1 ?_ ?_ ?_ ?_ ?_ ?_); rotate_left; (· rfl); (· rfl); (· exact entry_info); (· rfl); (· simp [Value.oneCell']); simp only [Act.put]))
    exact bodyPost_ret (results_tct (p := 4) (q := 5) (r := 6) rfl _ _ _ _ _ _ _ rfl (setRow_heap _ _ _ _ _ _ hr1) Try.underlying28 rfl entry_info) rfl ⟨_, _, _, rfl, EList.nil _ _, below_setRow b1 (show w.heap.size ≤ w.heap.size + 1 by omega) _⟩
  · rw [hva] at HV
    cases hok : okE e
    · obtain ⟨r1, r2, r3⟩ := inst_b hva hok
      rw [r1, r2, r3]
      rw [hok] at HE
      clear r1 r2 r3 hva hok
      obtain ⟨eb, ek, ev, em, ez, eo⟩ := e
      try simp only at HV HE HP HFI hA hr0 hx0 hs0
      go_enter Try.func15, Try.ntmps15
      generalize hw0 : (w.alloc (entRow eb ek ev em ez eo)).alloc (entRow 0 0 0 0 0 0) = w0 at *
      obtain ⟨c0, c1, c2, c3, c4, c5⟩ := entry_row hx0
      go_wp2_with (first
        | (go_at_call 31; ((with_reducible refine (HV.out _ hA).mono ?_); rintro e9 w1 ⟨rfl, hb1⟩; have hr1 := e_on hb1 hr0 (e_lt hr0); have hx1 := e_on hb1 hx0 (e_lt hx0); have b1 := hA.trans (hb1.mono hA.size); clear c0 c1 c2 c3 c4 c5; obtain ⟨c0, c1, c2, c3, c4, c5⟩ := entry_row hx1))
        | (go_at_call 35; ((with_reducible refine (HE.out _).mono ?_); rintro e9 w2 ⟨rfl, hb2⟩; have hr2 := e_on hb2 hr1 (e_lt hr1); have hx2 := e_on hb2 hx1 (e_lt hx1); have b2 := b1.trans (hb2.mono b1.size); clear c0 c1 c2 c3 c4 c5; obtain ⟨c0, c1, c2, c3, c4, c5⟩ := entry_row hx2))
        | ((with_reducible refine Plan.store_lit 28 (.tmp 5) _ (w.heap.size + 1) ?_ hr2 ?_ ?_ ?_ ?_ ?_ ?_); rotate_left; (· rfl); (· rfl); (· exact entry_info); (· rfl); (· simp [Value.oneCell']); simp only [Act.put]))
      exact bodyPost_ret (results_tct (p := 4) (q := 5) (r := 6) rfl _ _ _ _ _ _ _ rfl (setRow_heap _ _ _ _ _ _ hr2) Try.underlying28 rfl entry_info) rfl ⟨_, _, _, rfl, HEND.out _ b2 _, below_setRow b2 (show w.heap.size ≤ w.heap.size + 1 by omega) _⟩
    · rw [hok] at HE
      have hfe : findE L e.block = lookE L e.block := by unfold findE; rw [if_pos hva]
      cases hlk : lookE L e.block with
      | none =>
        obtain ⟨r1, r2, r3⟩ := inst_d hva hok hlk
        rw [r2, r3]
        generalize installL L e = LL at r1 ⊢
        have hf2 : ∀ W (h : Below w.heap.size w W), Calls Try.prog 37 #[.slice a len cap, .int .i64 e.block] W fun r w' => r = .returned (.tuple #[.agg #[.int .i64 0, .int .i64 0, .int .i64 0, .int .i64 0, .int .i64 0, .int .i64 0], .bool false]) ∧ Below W.heap.size W w' := fun W h => by
          have := HFI.out W h
          rwa [findV_none (hfe.trans hlk)] at this
        have HF2 := Lib.hid hf2
        clear r2 r3 hva hok hf2 hfe hlk
        generalize hkk : place L e.block = k at *
        have HLL := Lib.hid r1
        clear r1
        obtain ⟨eb, ek, ev, em, ez, eo⟩ := e
        try simp only at HV HE HP HF2 hA hr0 hx0 hs0 HLL
        clear HFI hkk HEND
        have hkI : (k : Int) ≤ (len : Int) := by omega
        rcases a with _ | x
        · obtain ⟨rfl, rfl, rfl⟩ := HL.out.none
          obtain rfl : k = 0 := by omega
          have HT := Lib.hid (fun W (h : Below w.heap.size w W) => (HLOW.out W h).taken (0) (by omega))
          have hd : ∀ W (h : Below w.heap.size w W), EList W (fun b => b < w.heap.size) none 0 0 ([] : List Ent) := fun W h => HLOW.out W h
          have HD := Lib.hid hd
          clear hd
          go_enter Try.func15, Try.ntmps15
          generalize hw0 : (w.alloc (entRow eb ek ev em ez eo)).alloc (entRow 0 0 0 0 0 0) = w0 at *
          obtain ⟨c0, c1, c2, c3, c4, c5⟩ := entry_row hx0
          go_wp2_with (first
            | (go_at_call 31; ((with_reducible refine (HV.out _ hA).mono ?_); rintro e9 w1 ⟨rfl, hb1⟩; have hr1 := e_on hb1 hr0 (e_lt hr0); have hx1 := e_on hb1 hx0 (e_lt hx0); have b1 := hA.trans (hb1.mono hA.size); clear c0 c1 c2 c3 c4 c5; obtain ⟨c0, c1, c2, c3, c4, c5⟩ := entry_row hx1))
            | (go_at_call 35; ((with_reducible refine (HE.out _).mono ?_); rintro e9 w2 ⟨rfl, hb2⟩; have hr2 := e_on hb2 hr1 (e_lt hr1); have hx2 := e_on hb2 hx1 (e_lt hx1); have b2 := b1.trans (hb2.mono b1.size); clear c0 c1 c2 c3 c4 c5; obtain ⟨c0, c1, c2, c3, c4, c5⟩ := entry_row hx2))
            | (go_at_call 36; ((with_reducible refine (HP.out _ b2).mono ?_); rintro e9 w3 ⟨rfl, hb3⟩; have hr3 := e_on hb3 hr2 (e_lt hr2); have hx3 := e_on hb3 hx2 (e_lt hx2); have b3 := b2.trans (hb3.mono b2.size); clear c0 c1 c2 c3 c4 c5; obtain ⟨c0, c1, c2, c3, c4, c5⟩ := entry_row hx3))
            | (go_at_call 37; ((with_reducible refine (HF2.out _ b3).mono ?_); rintro e9 w4 ⟨rfl, hb4⟩; have hr4 := e_al (e_on hb4 hr3 (e_lt hr3)) (entRow 0 0 0 0 0 0); have hx4 := e_al (e_on hb4 hx3 (e_lt hx3)) (entRow 0 0 0 0 0 0); have ho4 := heap_alloc_new w4 (entRow 0 0 0 0 0 0); have b4 := (b3.trans (hb4.mono b3.size)).alloc (b3.trans (hb4.mono b3.size)).size (entRow 0 0 0 0 0 0); have hwx := e_lt hx4; have hwr := e_lt hr4; have hwo := e_lt ho4; have n4 : w.heap.size + 2 ≤ w4.heap.size := Nat.le_trans (by omega) (Nat.le_trans hb1.size (Nat.le_trans hb2.size (Nat.le_trans hb3.size hb4.size))); clear c0 c1 c2 c3 c4 c5; obtain ⟨c0, c1, c2, c3, c4, c5⟩ := entry_row hx4; obtain ⟨o0, o1, o2, o3, o4, o5⟩ := entry_row ho4))
            | (at_builtin; refine append_ents (F := fun b => b < w.heap.size) rfl (.tmp 41) (.tmp 44) rfl (w4.heap.size + 1) (.slice (some ⟨w4.heap.size + 1, 0, none⟩) 0 0) 0 [] rfl (ents_empty (w4.alloc (entRow 0 0 0 0 0 0)) (World.size_alloc _ _)) none 0 0 (([] : List Ent).take 0) rfl (HT.out _ (b4.alloc b4.size (.cells #[] 28))) (by omega) (by simp) ?_; intro v5 w5 hown5 hgrow5; rw [Nat.zero_add, List.nil_append] at hown5; have hr5 := (hgrow5.block (w.heap.size + 1) (by simp only [World.size_alloc] at *; omega) (fun h9 => by have h8 := Option.some.inj (show some _ = some (w4.heap.size + 1) from h9); omega)).trans (e_al hr4 (.cells #[] 28)); have hx5 := (hgrow5.block w.heap.size (by simp only [World.size_alloc] at *; omega) (fun h9 => by have h8 := Option.some.inj (show some _ = some (w4.heap.size + 1) from h9); omega)).trans (e_al hx4 (.cells #[] 28)); have ho5 := (hgrow5.block w4.heap.size (by simp only [World.size_alloc] at *; omega) (fun h9 => by have h8 := Option.some.inj (show some _ = some (w4.heap.size + 1) from h9); omega)).trans (e_al ho4 (.cells #[] 28)); have b5 := (b4.alloc b4.size (.cells #[] 28)).grown hgrow5 (b4.alloc b4.size (.cells #[] 28)).size (fun z9 h9 => by have h8 := Option.some.inj (show some (w4.heap.size + 1) = some z9 from h9); omega); have n5 := e_lt ho5; clear c0 c1 c2 c3 c4 c5; obtain ⟨c0, c1, c2, c3, c4, c5⟩ := entry_row hx5)
            | (at_builtin; refine append_ents (F := fun _ => True) rfl (.tmp 46) (.tmp 48) rfl (w4.heap.size + 1) v5 0 (([] : List Ent).take 0) rfl (hown5.alloc _) (some ⟨w5.heap.size, 0, none⟩) 1 1 [⟨eb, ek, ev, em, ez, eo⟩] rfl (elist_one (heap_alloc_new w5 (entRow eb ek ev em ez eo))) (by omega) (by simp only [World.size_alloc]; omega) ?_; intro v6 w6 hown6 hgrow6; have hr6 := (hgrow6.block (w.heap.size + 1) (by simp only [World.size_alloc]; omega) (fun h9 => by have := (hown5.lt _ h9.symm).1; omega)).trans (e_al hr5 (entRow eb ek ev em ez eo)); have ho6 := (hgrow6.block w4.heap.size (by simp only [World.size_alloc]; omega) (fun h9 => by have := (hown5.lt _ h9.symm).1; omega)).trans (e_al ho5 (entRow eb ek ev em ez eo)); have b6 := (b5.alloc b5.size (entRow eb ek ev em ez eo)).grown hgrow6 (b5.alloc b5.size (entRow eb ek ev em ez eo)).size (fun z9 h9 => by have := (hown5.lt _ h9).1; omega); have n6 := e_lt ho6; clear c0 c1 c2 c3 c4 c5 o0 o1 o2 o3 o4 o5; obtain ⟨o0, o1, o2, o3, o4, o5⟩ := entry_row ho6))
          refine Plan.start (fun W => W.cell? ⟨w4.heap.size, 0, none⟩ = some (.int .i64 0) ∧ W.cell? ⟨w4.heap.size, 1, none⟩ = some (.int .i64 0) ∧ W.cell? ⟨w4.heap.size, 2, none⟩ = some (.int .i64 0) ∧ W.cell? ⟨w4.heap.size, 3, none⟩ = some (.int .i64 0) ∧ W.cell? ⟨w4.heap.size, 4, none⟩ = some (.int .i64 0) ∧ W.cell? ⟨w4.heap.size, 5, none⟩ = some (.int .i64 0)) [(0, true), (1, true), (2, true), (3, true), (5, true), (4, false), (6, true), (7, false), (8, true)] (by kernel_rfl) (by kernel_rfl) (by kernel_rfl) (by kernel_rfl) ⟨o0, o1, o2, o3, o4, o5⟩ ?_
          simp only [List.map_cons, List.map_nil, List.getElem?_toArray, List.getElem?_cons_zero, List.getElem?_cons_succ]
          iterate 3 (refine Plan.take ?_ (by rfl) ?_ ?_; rotate_left; (· rintro w9 ⟨u0, u1, u2, u3, u4, u5⟩; go_simp; all_goals (with_reducible rfl)); simp only [Act.put, List.setIfInBounds_toArray, List.set_cons_zero, List.set_cons_succ])
          refine Plan.take (.slice none 0 0) (by rfl) ?_ ?_
          · rintro w9 -
            go_simp
            all_goals (intro h9; omega)
          simp only [Act.put, List.setIfInBounds_toArray, List.set_cons_zero, List.set_cons_succ]
          refine Plan.take ?_ (by rfl) ?_ ?_
          rotate_left
          · rintro w9 ⟨u0, u1, u2, u3, u4, u5⟩
            go_simp
            all_goals (with_reducible rfl)
          simp only [Act.put, List.setIfInBounds_toArray, List.set_cons_zero, List.set_cons_succ]
          refine Plan.carry (by rfl) (wp_append_ents (F := fun b => b < w.heap.size) (.tmp 53) (.tmp 56) rfl (w4.heap.size + 1) v6 (0 + 1) (([] : List Ent).take 0 ++ [⟨eb, ek, ev, em, ez, eo⟩]) rfl (w := w6.drew) (e_owns_drew hown6) none 0 0 (([] : List Ent).drop (0)) rfl (HD.out _ b6.drew) (by omega) (show w4.heap.size + 1 ≤ w6.heap.size by omega) ?_)
          intro v7 w7 hown7 hgrow7
          have hr7 := (hgrow7.block (w.heap.size + 1) (show w.heap.size + 1 < w6.heap.size by omega) (fun h9 => by have := (hown6.lt _ h9.symm).1; omega)).trans (show w6.drew.heap[w.heap.size + 1]? = _ from hr6)
          have ho7 := (hgrow7.block w4.heap.size (show w4.heap.size < w6.heap.size by omega) (fun h9 => by have := (hown6.lt _ h9.symm).1; omega)).trans (show w6.drew.heap[w4.heap.size]? = _ from ho6)
          have b7 := b6.drew.grown hgrow7 b6.drew.size (fun z9 h9 => by have := (hown6.lt _ h9).1; omega)
          refine ⟨entry_row ho7, ?_⟩
          simp only [Act.put, List.setIfInBounds_toArray, List.set_cons_zero, List.set_cons_succ]
          repeat (first | (refine Plan.take ?_ (by rfl) ?_ ?_; rotate_left; (· rintro w9 ⟨u0, u1, u2, u3, u4, u5⟩; go_simp; (try rw [if_neg (by omega)]); all_goals (with_reducible rfl)); simp only [Act.put, List.setIfInBounds_toArray, List.set_cons_zero, List.set_cons_succ]) | (refine Plan.pass (by rfl) ?_; simp only [Act.put, List.setIfInBounds_toArray, List.set_cons_zero, List.set_cons_succ]))
          refine Plan.store (by rfl) 28 (.tmp 5) (.tmp 58) rfl (w.heap.size + 1) #[.int .i64 0, .int .i64 0, .int .i64 0, .int .i64 0, .int .i64 0, .int .i64 0] rfl rfl 28 _ hr7 entry_info rfl (by simp [Value.oneCell']) (entry_row ((setRow_other _ (w.heap.size + 1) w4.heap.size _ (by omega)).trans ho7)) ?_
          simp only [Act.put]
          repeat (first | (refine Plan.take ?_ (by rfl) ?_ ?_; rotate_left; (· rintro w9 ⟨u0, u1, u2, u3, u4, u5⟩; go_simp; (try rw [if_neg (by omega)]); all_goals (with_reducible rfl)); simp only [Act.put, List.setIfInBounds_toArray, List.set_cons_zero, List.set_cons_succ]) | (refine Plan.pass (by rfl) ?_; simp only [Act.put, List.setIfInBounds_toArray, List.set_cons_zero, List.set_cons_succ]))
          refine Plan.ends ?_
          have hne7 : ∀ b, v7.ownBlock = some b → w4.heap.size + 1 ≤ b := fun b h9 => (hown7.lt _ h9).1
          have hown9 := hown7.kept (sm_setRow w7 (w.heap.size + 1) #[.int .i64 0, .int .i64 0, .int .i64 0, .int .i64 0, .int .i64 0, .int .i64 0]) (.inr fun h9 => by have := hne7 _ h9; omega)
          obtain ⟨-, a7, c7, rfl, hl7⟩ := owns_ents (F := Plus F w.heap.size) hown9 (fun b h9 => .inr (by have := hne7 _ h9; omega))
          clear hown9 hown7 hgrow7 hown6 hgrow6 hown5 hgrow5 ho7 ho6 ho5 ho4 hx5 hx4 hr6 hr5 hr4 o0 o1 o2 o3 o4 o5
          go_wp2_with fail
          all_goals exact bodyPost_ret (results_tct (p := 4) (q := 5) (r := 6) rfl _ _ _ _ _ _ _ rfl (setRow_heap _ _ _ _ _ _ hr7) Try.underlying28 rfl entry_info) rfl ⟨_, _, _, rfl, (by rw [HLL.out]; exact hl7), below_setRow b7 (show w.heap.size ≤ w.heap.size + 1 by omega) _⟩
        · have HCAP := HL.out.cap
          have hkC : k ≤ cap := by have := HCAP.1; omega
          have hkC2 : (k : Int) ≤ (cap : Int) := by omega
          have HT := Lib.hid (fun W (h : Below w.heap.size w W) => (HLOW.out W h).taken (k) (by omega))
          have hd : ∀ W (h : Below w.heap.size w W), EList W (fun b => b < w.heap.size) (if cap = k then some x else some (x.add ((k) * 6))) (len - (k)) (cap - (k)) (L.drop (k)) := fun W h => (HLOW.out W h).dropped (k) (by omega)
          have HD := Lib.hid hd
          clear hd
          go_enter Try.func15, Try.ntmps15
          generalize hw0 : (w.alloc (entRow eb ek ev em ez eo)).alloc (entRow 0 0 0 0 0 0) = w0 at *
          obtain ⟨c0, c1, c2, c3, c4, c5⟩ := entry_row hx0
          go_wp2_with (first
            | (go_at_call 31; ((with_reducible refine (HV.out _ hA).mono ?_); rintro e9 w1 ⟨rfl, hb1⟩; have hr1 := e_on hb1 hr0 (e_lt hr0); have hx1 := e_on hb1 hx0 (e_lt hx0); have b1 := hA.trans (hb1.mono hA.size); clear c0 c1 c2 c3 c4 c5; obtain ⟨c0, c1, c2, c3, c4, c5⟩ := entry_row hx1))
            | (go_at_call 35; ((with_reducible refine (HE.out _).mono ?_); rintro e9 w2 ⟨rfl, hb2⟩; have hr2 := e_on hb2 hr1 (e_lt hr1); have hx2 := e_on hb2 hx1 (e_lt hx1); have b2 := b1.trans (hb2.mono b1.size); clear c0 c1 c2 c3 c4 c5; obtain ⟨c0, c1, c2, c3, c4, c5⟩ := entry_row hx2))
            | (go_at_call 36; ((with_reducible refine (HP.out _ b2).mono ?_); rintro e9 w3 ⟨rfl, hb3⟩; have hr3 := e_on hb3 hr2 (e_lt hr2); have hx3 := e_on hb3 hx2 (e_lt hx2); have b3 := b2.trans (hb3.mono b2.size); clear c0 c1 c2 c3 c4 c5; obtain ⟨c0, c1, c2, c3, c4, c5⟩ := entry_row hx3))
            | (go_at_call 37; ((with_reducible refine (HF2.out _ b3).mono ?_); rintro e9 w4 ⟨rfl, hb4⟩; have hr4 := e_al (e_on hb4 hr3 (e_lt hr3)) (entRow 0 0 0 0 0 0); have hx4 := e_al (e_on hb4 hx3 (e_lt hx3)) (entRow 0 0 0 0 0 0); have ho4 := heap_alloc_new w4 (entRow 0 0 0 0 0 0); have b4 := (b3.trans (hb4.mono b3.size)).alloc (b3.trans (hb4.mono b3.size)).size (entRow 0 0 0 0 0 0); have hwx := e_lt hx4; have hwr := e_lt hr4; have hwo := e_lt ho4; have n4 : w.heap.size + 2 ≤ w4.heap.size := Nat.le_trans (by omega) (Nat.le_trans hb1.size (Nat.le_trans hb2.size (Nat.le_trans hb3.size hb4.size))); clear c0 c1 c2 c3 c4 c5; obtain ⟨c0, c1, c2, c3, c4, c5⟩ := entry_row hx4; obtain ⟨o0, o1, o2, o3, o4, o5⟩ := entry_row ho4))
            | (at_builtin; refine append_ents (F := fun b => b < w.heap.size) rfl (.tmp 41) (.tmp 44) rfl (w4.heap.size + 1) (.slice (some ⟨w4.heap.size + 1, 0, none⟩) 0 0) 0 [] rfl (ents_empty (w4.alloc (entRow 0 0 0 0 0 0)) (World.size_alloc _ _)) (some x) k cap (L.take k) rfl (HT.out _ (b4.alloc b4.size (.cells #[] 28))) (by omega) (by simp) ?_; intro v5 w5 hown5 hgrow5; rw [Nat.zero_add, List.nil_append] at hown5; have hr5 := (hgrow5.block (w.heap.size + 1) (by simp only [World.size_alloc] at *; omega) (fun h9 => by have h8 := Option.some.inj (show some _ = some (w4.heap.size + 1) from h9); omega)).trans (e_al hr4 (.cells #[] 28)); have hx5 := (hgrow5.block w.heap.size (by simp only [World.size_alloc] at *; omega) (fun h9 => by have h8 := Option.some.inj (show some _ = some (w4.heap.size + 1) from h9); omega)).trans (e_al hx4 (.cells #[] 28)); have ho5 := (hgrow5.block w4.heap.size (by simp only [World.size_alloc] at *; omega) (fun h9 => by have h8 := Option.some.inj (show some _ = some (w4.heap.size + 1) from h9); omega)).trans (e_al ho4 (.cells #[] 28)); have b5 := (b4.alloc b4.size (.cells #[] 28)).grown hgrow5 (b4.alloc b4.size (.cells #[] 28)).size (fun z9 h9 => by have h8 := Option.some.inj (show some (w4.heap.size + 1) = some z9 from h9); omega); have n5 := e_lt ho5; clear c0 c1 c2 c3 c4 c5; obtain ⟨c0, c1, c2, c3, c4, c5⟩ := entry_row hx5)
            | (at_builtin; refine append_ents (F := fun _ => True) rfl (.tmp 46) (.tmp 48) rfl (w4.heap.size + 1) v5 k (L.take k) rfl (hown5.alloc _) (some ⟨w5.heap.size, 0, none⟩) 1 1 [⟨eb, ek, ev, em, ez, eo⟩] rfl (elist_one (heap_alloc_new w5 (entRow eb ek ev em ez eo))) (by omega) (by simp only [World.size_alloc]; omega) ?_; intro v6 w6 hown6 hgrow6; have hr6 := (hgrow6.block (w.heap.size + 1) (by simp only [World.size_alloc]; omega) (fun h9 => by have := (hown5.lt _ h9.symm).1; omega)).trans (e_al hr5 (entRow eb ek ev em ez eo)); have ho6 := (hgrow6.block w4.heap.size (by simp only [World.size_alloc]; omega) (fun h9 => by have := (hown5.lt _ h9.symm).1; omega)).trans (e_al ho5 (entRow eb ek ev em ez eo)); have b6 := (b5.alloc b5.size (entRow eb ek ev em ez eo)).grown hgrow6 (b5.alloc b5.size (entRow eb ek ev em ez eo)).size (fun z9 h9 => by have := (hown5.lt _ h9).1; omega); have n6 := e_lt ho6; clear c0 c1 c2 c3 c4 c5 o0 o1 o2 o3 o4 o5; obtain ⟨o0, o1, o2, o3, o4, o5⟩ := entry_row ho6))
          refine Plan.start (fun W => W.cell? ⟨w4.heap.size, 0, none⟩ = some (.int .i64 0) ∧ W.cell? ⟨w4.heap.size, 1, none⟩ = some (.int .i64 0) ∧ W.cell? ⟨w4.heap.size, 2, none⟩ = some (.int .i64 0) ∧ W.cell? ⟨w4.heap.size, 3, none⟩ = some (.int .i64 0) ∧ W.cell? ⟨w4.heap.size, 4, none⟩ = some (.int .i64 0) ∧ W.cell? ⟨w4.heap.size, 5, none⟩ = some (.int .i64 0)) [(0, true), (1, true), (2, true), (3, true), (5, true), (4, false), (6, true), (7, false), (8, true)] (by kernel_rfl) (by kernel_rfl) (by kernel_rfl) (by kernel_rfl) ⟨o0, o1, o2, o3, o4, o5⟩ ?_
          simp only [List.map_cons, List.map_nil, List.getElem?_toArray, List.getElem?_cons_zero, List.getElem?_cons_succ]
          iterate 3 (refine Plan.take ?_ (by rfl) ?_ ?_; rotate_left; (· rintro w9 ⟨u0, u1, u2, u3, u4, u5⟩; go_simp; all_goals (with_reducible rfl)); simp only [Act.put, List.setIfInBounds_toArray, List.set_cons_zero, List.set_cons_succ])
          refine Plan.take (.slice (if cap = k then some x else some (x.add ((k) * 6))) (len - (k)) (cap - (k))) (by rfl) ?_ ?_
          · rintro w9 -
            go_simp
            all_goals (intro h9; omega)
          simp only [Act.put, List.setIfInBounds_toArray, List.set_cons_zero, List.set_cons_succ]
          refine Plan.take ?_ (by rfl) ?_ ?_
          rotate_left
          · rintro w9 ⟨u0, u1, u2, u3, u4, u5⟩
            go_simp
            all_goals (with_reducible rfl)
          simp only [Act.put, List.setIfInBounds_toArray, List.set_cons_zero, List.set_cons_succ]
          refine Plan.carry (by rfl) (wp_append_ents (F := fun b => b < w.heap.size) (.tmp 53) (.tmp 56) rfl (w4.heap.size + 1) v6 (k + 1) (L.take k ++ [⟨eb, ek, ev, em, ez, eo⟩]) rfl (w := w6.drew) (e_owns_drew hown6) (if cap = k then some x else some (x.add ((k) * 6))) (len - (k)) (cap - (k)) (L.drop (k)) rfl (HD.out _ b6.drew) (by omega) (show w4.heap.size + 1 ≤ w6.heap.size by omega) ?_)
          intro v7 w7 hown7 hgrow7
          have hr7 := (hgrow7.block (w.heap.size + 1) (show w.heap.size + 1 < w6.heap.size by omega) (fun h9 => by have := (hown6.lt _ h9.symm).1; omega)).trans (show w6.drew.heap[w.heap.size + 1]? = _ from hr6)
          have ho7 := (hgrow7.block w4.heap.size (show w4.heap.size < w6.heap.size by omega) (fun h9 => by have := (hown6.lt _ h9.symm).1; omega)).trans (show w6.drew.heap[w4.heap.size]? = _ from ho6)
          have b7 := b6.drew.grown hgrow7 b6.drew.size (fun z9 h9 => by have := (hown6.lt _ h9).1; omega)
          refine ⟨entry_row ho7, ?_⟩
          simp only [Act.put, List.setIfInBounds_toArray, List.set_cons_zero, List.set_cons_succ]
          repeat (first | (refine Plan.take ?_ (by rfl) ?_ ?_; rotate_left; (· rintro w9 ⟨u0, u1, u2, u3, u4, u5⟩; go_simp; (try rw [if_neg (by omega)]); all_goals (with_reducible rfl)); simp only [Act.put, List.setIfInBounds_toArray, List.set_cons_zero, List.set_cons_succ]) | (refine Plan.pass (by rfl) ?_; simp only [Act.put, List.setIfInBounds_toArray, List.set_cons_zero, List.set_cons_succ]))
          refine Plan.store (by rfl) 28 (.tmp 5) (.tmp 58) rfl (w.heap.size + 1) #[.int .i64 0, .int .i64 0, .int .i64 0, .int .i64 0, .int .i64 0, .int .i64 0] rfl rfl 28 _ hr7 entry_info rfl (by simp [Value.oneCell']) (entry_row ((setRow_other _ (w.heap.size + 1) w4.heap.size _ (by omega)).trans ho7)) ?_
          simp only [Act.put]
          repeat (first | (refine Plan.take ?_ (by rfl) ?_ ?_; rotate_left; (· rintro w9 ⟨u0, u1, u2, u3, u4, u5⟩; go_simp; (try rw [if_neg (by omega)]); all_goals (with_reducible rfl)); simp only [Act.put, List.setIfInBounds_toArray, List.set_cons_zero, List.set_cons_succ]) | (refine Plan.pass (by rfl) ?_; simp only [Act.put, List.setIfInBounds_toArray, List.set_cons_zero, List.set_cons_succ]))
          refine Plan.ends ?_
          have hne7 : ∀ b, v7.ownBlock = some b → w4.heap.size + 1 ≤ b := fun b h9 => (hown7.lt _ h9).1
          have hown9 := hown7.kept (sm_setRow w7 (w.heap.size + 1) #[.int .i64 0, .int .i64 0, .int .i64 0, .int .i64 0, .int .i64 0, .int .i64 0]) (.inr fun h9 => by have := hne7 _ h9; omega)
          obtain ⟨-, a7, c7, rfl, hl7⟩ := owns_ents (F := Plus F w.heap.size) hown9 (fun b h9 => .inr (by have := hne7 _ h9; omega))
          clear hown9 hown7 hgrow7 hown6 hgrow6 hown5 hgrow5 ho7 ho6 ho5 ho4 hx5 hx4 hr6 hr5 hr4 o0 o1 o2 o3 o4 o5
          go_wp2_with fail
          all_goals exact bodyPost_ret (results_tct (p := 4) (q := 5) (r := 6) rfl _ _ _ _ _ _ _ rfl (setRow_heap _ _ _ _ _ _ hr7) Try.underlying28 rfl entry_info) rfl ⟨_, _, _, rfl, (by rw [HLL.out]; exact hl7), below_setRow b7 (show w.heap.size ≤ w.heap.size + 1 by omega) _⟩
      | some y =>
        have hyb := look_block hlk
        have hf2 : ∀ W (h : Below w.heap.size w W), Calls Try.prog 37 #[.slice a len cap, .int .i64 e.block] W fun r w' => r = .returned (.tuple #[entV y, .bool true]) ∧ Below W.heap.size W w' := fun W h => by
          have := HFI.out W h
          rwa [findV_some (hfe.trans hlk)] at this
        have HF2 := Lib.hid hf2
        have hklt : place L e.block < len := by
          have h1 := look_place (valid_iff.1 hva).2 e.block
          rw [hlk] at h1
          rcases Nat.lt_or_ge (place L e.block) len with h2 | h2
          · exact h2
          · rw [List.getElem?_eq_none (by omega)] at h1; cases h1
        by_cases hvv : e.version ≤ y.version
        · obtain ⟨r1, r2, r3⟩ := inst_c hva hok hlk hvv
          rw [r1, r2, r3]
          clear r1 r2 r3 hva hok hf2 hfe hlk hyb hklt HFI
          generalize hkk : place L e.block = k at *
          obtain ⟨eb, ek, ev, em, ez, eo⟩ := e
          obtain ⟨yb, yk, yv, ym, yz, yo⟩ := y
          try simp only at HV HE HP HF2 hA hr0 hx0 hs0 hvv
          clear hkk
          go_enter Try.func15, Try.ntmps15
          generalize hw0 : (w.alloc (entRow eb ek ev em ez eo)).alloc (entRow 0 0 0 0 0 0) = w0 at *
          obtain ⟨c0, c1, c2, c3, c4, c5⟩ := entry_row hx0
          go_wp2_with (first
            | (go_at_call 31; ((with_reducible refine (HV.out _ hA).mono ?_); rintro e9 w1 ⟨rfl, hb1⟩; have hr1 := e_on hb1 hr0 (e_lt hr0); have hx1 := e_on hb1 hx0 (e_lt hx0); have b1 := hA.trans (hb1.mono hA.size); clear c0 c1 c2 c3 c4 c5; obtain ⟨c0, c1, c2, c3, c4, c5⟩ := entry_row hx1))
            | (go_at_call 35; ((with_reducible refine (HE.out _).mono ?_); rintro e9 w2 ⟨rfl, hb2⟩; have hr2 := e_on hb2 hr1 (e_lt hr1); have hx2 := e_on hb2 hx1 (e_lt hx1); have b2 := b1.trans (hb2.mono b1.size); clear c0 c1 c2 c3 c4 c5; obtain ⟨c0, c1, c2, c3, c4, c5⟩ := entry_row hx2))
            | (go_at_call 36; ((with_reducible refine (HP.out _ b2).mono ?_); rintro e9 w3 ⟨rfl, hb3⟩; have hr3 := e_on hb3 hr2 (e_lt hr2); have hx3 := e_on hb3 hx2 (e_lt hx2); have b3 := b2.trans (hb3.mono b2.size); clear c0 c1 c2 c3 c4 c5; obtain ⟨c0, c1, c2, c3, c4, c5⟩ := entry_row hx3))
            | (go_at_call 37; ((with_reducible refine (HF2.out _ b3).mono ?_); rintro e9 w4 ⟨rfl, hb4⟩; have hr4 := e_al (e_on hb4 hr3 (e_lt hr3)) (entRow yb yk yv ym yz yo); have hx4 := e_al (e_on hb4 hx3 (e_lt hx3)) (entRow yb yk yv ym yz yo); have ho4 := heap_alloc_new w4 (entRow yb yk yv ym yz yo); have b4 := (b3.trans (hb4.mono b3.size)).alloc (b3.trans (hb4.mono b3.size)).size (entRow yb yk yv ym yz yo); have hwx := e_lt hx4; have hwr := e_lt hr4; have hwo := e_lt ho4; have n4 : w.heap.size + 2 ≤ w4.heap.size := Nat.le_trans (by omega) (Nat.le_trans hb1.size (Nat.le_trans hb2.size (Nat.le_trans hb3.size hb4.size))); clear c0 c1 c2 c3 c4 c5; obtain ⟨c0, c1, c2, c3, c4, c5⟩ := entry_row hx4; obtain ⟨o0, o1, o2, o3, o4, o5⟩ := entry_row ho4)))
          refine Plan.start (fun W => W.cell? ⟨w4.heap.size, 0, none⟩ = some (.int .i64 yb) ∧ W.cell? ⟨w4.heap.size, 1, none⟩ = some (.int .i64 yk) ∧ W.cell? ⟨w4.heap.size, 2, none⟩ = some (.int .i64 yv) ∧ W.cell? ⟨w4.heap.size, 3, none⟩ = some (.int .i64 ym) ∧ W.cell? ⟨w4.heap.size, 4, none⟩ = some (.int .i64 yz) ∧ W.cell? ⟨w4.heap.size, 5, none⟩ = some (.int .i64 yo)) [(0, true), (1, true), (2, true), (3, false), (4, true)] (by kernel_rfl) (by kernel_rfl) (by kernel_rfl) (by kernel_rfl) ⟨o0, o1, o2, o3, o4, o5⟩ ?_
          simp only [List.map_cons, List.map_nil, List.getElem?_toArray, List.getElem?_cons_zero, List.getElem?_cons_succ]
          repeat (first | (refine Plan.take ?_ (by rfl) ?_ ?_; rotate_left; (· rintro w9 ⟨u0, u1, u2, u3, u4, u5⟩; go_simp; (try rw [if_neg (by omega)]); all_goals (with_reducible rfl)); simp only [Act.put, List.setIfInBounds_toArray, List.set_cons_zero, List.set_cons_succ]) | (refine Plan.pass (by rfl) ?_; simp only [Act.put, List.setIfInBounds_toArray, List.set_cons_zero, List.set_cons_succ]))
          refine Plan.store (by rfl) 28 (.tmp 5) (.tmp 40) rfl (w.heap.size + 1) #[.int .i64 yb, .int .i64 yk, .int .i64 yv, .int .i64 ym, .int .i64 yz, .int .i64 yo] rfl rfl 28 _ (show (w4.alloc (entRow yb yk yv ym yz yo)).drew.heap[w.heap.size + 1]? = _ from hr4) entry_info rfl (by simp [Value.oneCell']) (entry_row ((setRow_other _ (w.heap.size + 1) w4.heap.size _ (by omega)).trans (show (w4.alloc (entRow yb yk yv ym yz yo)).drew.heap[w4.heap.size]? = _ from ho4))) ?_
          simp only [Act.put]
          repeat (first | (refine Plan.take ?_ (by rfl) ?_ ?_; rotate_left; (· rintro w9 ⟨u0, u1, u2, u3, u4, u5⟩; go_simp; (try rw [if_neg (by omega)]); all_goals (with_reducible rfl)); simp only [Act.put, List.setIfInBounds_toArray, List.set_cons_zero, List.set_cons_succ]) | (refine Plan.pass (by rfl) ?_; simp only [Act.put, List.setIfInBounds_toArray, List.set_cons_zero, List.set_cons_succ]))
          refine Plan.ends ?_
          have hl9 := HEND.out _ b4.drew #[.int .i64 yb, .int .i64 yk, .int .i64 yv, .int .i64 ym, .int .i64 yz, .int .i64 yo]
          have b9 := below_setRow b4.drew (show w.heap.size ≤ w.heap.size + 1 by omega) #[.int .i64 yb, .int .i64 yk, .int .i64 yv, .int .i64 ym, .int .i64 yz, .int .i64 yo]
          have hr9 := setRow_heap (w4.alloc (entRow yb yk yv ym yz yo)).drew (w.heap.size + 1) _ #[.int .i64 yb, .int .i64 yk, .int .i64 yv, .int .i64 ym, .int .i64 yz, .int .i64 yo] _ _ (show (w4.alloc (entRow yb yk yv ym yz yo)).drew.heap[w.heap.size + 1]? = _ from hr4)
          generalize (w4.alloc (entRow yb yk yv ym yz yo)).drew.setRow (w.heap.size + 1) #[.int .i64 yb, .int .i64 yk, .int .i64 yv, .int .i64 ym, .int .i64 yz, .int .i64 yo] = w9 at *
          clear o0 o1 o2 o3 o4 o5 c0 c1 c2 c3 c4 c5
          go_wp2_with fail
          exact bodyPost_ret (results_tct (p := 4) (q := 5) (r := 6) rfl _ _ _ _ _ _ _ rfl hr9 Try.underlying28 rfl entry_info) rfl ⟨_, _, _, rfl, hl9, b9⟩
        · obtain ⟨r1, r2, r3⟩ := inst_e hva hok hlk (by omega)
          rw [r2, r3]
          generalize installL L e = LL at r1 ⊢
          clear r2 r3 hva hok hf2 hfe hlk hyb HFI HEND
          generalize hkk : place L e.block = k at *
          have HLL := Lib.hid r1
          clear r1
          obtain ⟨eb, ek, ev, em, ez, eo⟩ := e
          obtain ⟨yb, yk, yv, ym, yz, yo⟩ := y
          try simp only at HV HE HP HF2 hA hr0 hx0 hs0 hvv HLL
          clear hkk
          have hkI : (k : Int) + 1 ≤ (len : Int) := by omega
          rcases a with _ | x
          · obtain ⟨rfl, -⟩ := HL.out.none
            exact absurd hklt (Nat.not_lt_zero _)
          · have HCAP := HL.out.cap
            have hkC : k ≤ cap := by have := HCAP.1; omega
            have hkC2 : (k : Int) + 1 ≤ (cap : Int) := by omega
            have hkN : k + 1 ≤ len := hklt
            have HT := Lib.hid (fun W (h : Below w.heap.size w W) => (HLOW.out W h).taken (k) (by omega))
            have hd : ∀ W (h : Below w.heap.size w W), EList W (fun b => b < w.heap.size) (if cap = k + 1 then some x else some (x.add ((k + 1) * 6))) (len - (k + 1)) (cap - (k + 1)) (L.drop (k + 1)) := fun W h => (HLOW.out W h).dropped (k + 1) (by omega)
            have HD := Lib.hid hd
            clear hd
            go_enter Try.func15, Try.ntmps15
            generalize hw0 : (w.alloc (entRow eb ek ev em ez eo)).alloc (entRow 0 0 0 0 0 0) = w0 at *
            obtain ⟨c0, c1, c2, c3, c4, c5⟩ := entry_row hx0
            go_wp2_with (first
              | (go_at_call 31; ((with_reducible refine (HV.out _ hA).mono ?_); rintro e9 w1 ⟨rfl, hb1⟩; have hr1 := e_on hb1 hr0 (e_lt hr0); have hx1 := e_on hb1 hx0 (e_lt hx0); have b1 := hA.trans (hb1.mono hA.size); clear c0 c1 c2 c3 c4 c5; obtain ⟨c0, c1, c2, c3, c4, c5⟩ := entry_row hx1))
              | (go_at_call 35; ((with_reducible refine (HE.out _).mono ?_); rintro e9 w2 ⟨rfl, hb2⟩; have hr2 := e_on hb2 hr1 (e_lt hr1); have hx2 := e_on hb2 hx1 (e_lt hx1); have b2 := b1.trans (hb2.mono b1.size); clear c0 c1 c2 c3 c4 c5; obtain ⟨c0, c1, c2, c3, c4, c5⟩ := entry_row hx2))
              | (go_at_call 36; ((with_reducible refine (HP.out _ b2).mono ?_); rintro e9 w3 ⟨rfl, hb3⟩; have hr3 := e_on hb3 hr2 (e_lt hr2); have hx3 := e_on hb3 hx2 (e_lt hx2); have b3 := b2.trans (hb3.mono b2.size); clear c0 c1 c2 c3 c4 c5; obtain ⟨c0, c1, c2, c3, c4, c5⟩ := entry_row hx3))
              | (go_at_call 37; ((with_reducible refine (HF2.out _ b3).mono ?_); rintro e9 w4 ⟨rfl, hb4⟩; have hr4 := e_al (e_on hb4 hr3 (e_lt hr3)) (entRow yb yk yv ym yz yo); have hx4 := e_al (e_on hb4 hx3 (e_lt hx3)) (entRow yb yk yv ym yz yo); have ho4 := heap_alloc_new w4 (entRow yb yk yv ym yz yo); have b4 := (b3.trans (hb4.mono b3.size)).alloc (b3.trans (hb4.mono b3.size)).size (entRow yb yk yv ym yz yo); have hwx := e_lt hx4; have hwr := e_lt hr4; have hwo := e_lt ho4; have n4 : w.heap.size + 2 ≤ w4.heap.size := Nat.le_trans (by omega) (Nat.le_trans hb1.size (Nat.le_trans hb2.size (Nat.le_trans hb3.size hb4.size))); clear c0 c1 c2 c3 c4 c5; obtain ⟨c0, c1, c2, c3, c4, c5⟩ := entry_row hx4; obtain ⟨o0, o1, o2, o3, o4, o5⟩ := entry_row ho4))
              | (at_builtin; refine append_ents (F := fun b => b < w.heap.size) rfl (.tmp 41) (.tmp 44) rfl (w4.heap.size + 1) (.slice (some ⟨w4.heap.size + 1, 0, none⟩) 0 0) 0 [] rfl (ents_empty (w4.alloc (entRow yb yk yv ym yz yo)) (World.size_alloc _ _)) (some x) k cap (L.take k) rfl (HT.out _ (b4.alloc b4.size (.cells #[] 28))) (by omega) (by simp) ?_; intro v5 w5 hown5 hgrow5; rw [Nat.zero_add, List.nil_append] at hown5; have hr5 := (hgrow5.block (w.heap.size + 1) (by simp only [World.size_alloc] at *; omega) (fun h9 => by have h8 := Option.some.inj (show some _ = some (w4.heap.size + 1) from h9); omega)).trans (e_al hr4 (.cells #[] 28)); have hx5 := (hgrow5.block w.heap.size (by simp only [World.size_alloc] at *; omega) (fun h9 => by have h8 := Option.some.inj (show some _ = some (w4.heap.size + 1) from h9); omega)).trans (e_al hx4 (.cells #[] 28)); have ho5 := (hgrow5.block w4.heap.size (by simp only [World.size_alloc] at *; omega) (fun h9 => by have h8 := Option.some.inj (show some _ = some (w4.heap.size + 1) from h9); omega)).trans (e_al ho4 (.cells #[] 28)); have b5 := (b4.alloc b4.size (.cells #[] 28)).grown hgrow5 (b4.alloc b4.size (.cells #[] 28)).size (fun z9 h9 => by have h8 := Option.some.inj (show some (w4.heap.size + 1) = some z9 from h9); omega); have n5 := e_lt ho5; clear c0 c1 c2 c3 c4 c5; obtain ⟨c0, c1, c2, c3, c4, c5⟩ := entry_row hx5)
              | (at_builtin; refine append_ents (F := fun _ => True) rfl (.tmp 46) (.tmp 48) rfl (w4.heap.size + 1) v5 k (L.take k) rfl (hown5.alloc _) (some ⟨w5.heap.size, 0, none⟩) 1 1 [⟨eb, ek, ev, em, ez, eo⟩] rfl (elist_one (heap_alloc_new w5 (entRow eb ek ev em ez eo))) (by omega) (by simp only [World.size_alloc]; omega) ?_; intro v6 w6 hown6 hgrow6; have hr6 := (hgrow6.block (w.heap.size + 1) (by simp only [World.size_alloc]; omega) (fun h9 => by have := (hown5.lt _ h9.symm).1; omega)).trans (e_al hr5 (entRow eb ek ev em ez eo)); have ho6 := (hgrow6.block w4.heap.size (by simp only [World.size_alloc]; omega) (fun h9 => by have := (hown5.lt _ h9.symm).1; omega)).trans (e_al ho5 (entRow eb ek ev em ez eo)); have b6 := (b5.alloc b5.size (entRow eb ek ev em ez eo)).grown hgrow6 (b5.alloc b5.size (entRow eb ek ev em ez eo)).size (fun z9 h9 => by have := (hown5.lt _ h9).1; omega); have n6 := e_lt ho6; clear c0 c1 c2 c3 c4 c5 o0 o1 o2 o3 o4 o5; obtain ⟨o0, o1, o2, o3, o4, o5⟩ := entry_row ho6))
            refine Plan.start (fun W => W.cell? ⟨w4.heap.size, 0, none⟩ = some (.int .i64 yb) ∧ W.cell? ⟨w4.heap.size, 1, none⟩ = some (.int .i64 yk) ∧ W.cell? ⟨w4.heap.size, 2, none⟩ = some (.int .i64 yv) ∧ W.cell? ⟨w4.heap.size, 3, none⟩ = some (.int .i64 ym) ∧ W.cell? ⟨w4.heap.size, 4, none⟩ = some (.int .i64 yz) ∧ W.cell? ⟨w4.heap.size, 5, none⟩ = some (.int .i64 yo)) [(0, true), (1, true), (2, true), (3, true), (5, true), (4, false), (6, true), (7, false), (8, true)] (by kernel_rfl) (by kernel_rfl) (by kernel_rfl) (by kernel_rfl) ⟨o0, o1, o2, o3, o4, o5⟩ ?_
            simp only [List.map_cons, List.map_nil, List.getElem?_toArray, List.getElem?_cons_zero, List.getElem?_cons_succ]
            iterate 3 (refine Plan.take ?_ (by rfl) ?_ ?_; rotate_left; (· rintro w9 ⟨u0, u1, u2, u3, u4, u5⟩; go_simp; all_goals (with_reducible rfl)); simp only [Act.put, List.setIfInBounds_toArray, List.set_cons_zero, List.set_cons_succ])
            refine Plan.take (.slice (if cap = k + 1 then some x else some (x.add ((k + 1) * 6))) (len - (k + 1)) (cap - (k + 1))) (by rfl) ?_ ?_
            · rintro w9 -
              go_simp
              all_goals (intro h9; omega)
            simp only [Act.put, List.setIfInBounds_toArray, List.set_cons_zero, List.set_cons_succ]
            refine Plan.take ?_ (by rfl) ?_ ?_
            rotate_left
            · rintro w9 ⟨u0, u1, u2, u3, u4, u5⟩
              go_simp
              all_goals (with_reducible rfl)
            simp only [Act.put, List.setIfInBounds_toArray, List.set_cons_zero, List.set_cons_succ]
            refine Plan.carry (by rfl) (wp_append_ents (F := fun b => b < w.heap.size) (.tmp 53) (.tmp 56) rfl (w4.heap.size + 1) v6 (k + 1) (L.take k ++ [⟨eb, ek, ev, em, ez, eo⟩]) rfl (w := w6.drew) (e_owns_drew hown6) (if cap = k + 1 then some x else some (x.add ((k + 1) * 6))) (len - (k + 1)) (cap - (k + 1)) (L.drop (k + 1)) rfl (HD.out _ b6.drew) (by omega) (show w4.heap.size + 1 ≤ w6.heap.size by omega) ?_)
            intro v7 w7 hown7 hgrow7
            have hr7 := (hgrow7.block (w.heap.size + 1) (show w.heap.size + 1 < w6.heap.size by omega) (fun h9 => by have := (hown6.lt _ h9.symm).1; omega)).trans (show w6.drew.heap[w.heap.size + 1]? = _ from hr6)
            have ho7 := (hgrow7.block w4.heap.size (show w4.heap.size < w6.heap.size by omega) (fun h9 => by have := (hown6.lt _ h9.symm).1; omega)).trans (show w6.drew.heap[w4.heap.size]? = _ from ho6)
            have b7 := b6.drew.grown hgrow7 b6.drew.size (fun z9 h9 => by have := (hown6.lt _ h9).1; omega)
            refine ⟨entry_row ho7, ?_⟩
            simp only [Act.put, List.setIfInBounds_toArray, List.set_cons_zero, List.set_cons_succ]
            repeat (first | (refine Plan.take ?_ (by rfl) ?_ ?_; rotate_left; (· rintro w9 ⟨u0, u1, u2, u3, u4, u5⟩; go_simp; (try rw [if_neg (by omega)]); all_goals (with_reducible rfl)); simp only [Act.put, List.setIfInBounds_toArray, List.set_cons_zero, List.set_cons_succ]) | (refine Plan.pass (by rfl) ?_; simp only [Act.put, List.setIfInBounds_toArray, List.set_cons_zero, List.set_cons_succ]))
            refine Plan.store (by rfl) 28 (.tmp 5) (.tmp 58) rfl (w.heap.size + 1) #[.int .i64 yb, .int .i64 yk, .int .i64 yv, .int .i64 ym, .int .i64 yz, .int .i64 yo] rfl rfl 28 _ hr7 entry_info rfl (by simp [Value.oneCell']) (entry_row ((setRow_other _ (w.heap.size + 1) w4.heap.size _ (by omega)).trans ho7)) ?_
            simp only [Act.put]
            repeat (first | (refine Plan.take ?_ (by rfl) ?_ ?_; rotate_left; (· rintro w9 ⟨u0, u1, u2, u3, u4, u5⟩; go_simp; (try rw [if_neg (by omega)]); all_goals (with_reducible rfl)); simp only [Act.put, List.setIfInBounds_toArray, List.set_cons_zero, List.set_cons_succ]) | (refine Plan.pass (by rfl) ?_; simp only [Act.put, List.setIfInBounds_toArray, List.set_cons_zero, List.set_cons_succ]))
            refine Plan.ends ?_
            have hne7 : ∀ b, v7.ownBlock = some b → w4.heap.size + 1 ≤ b := fun b h9 => (hown7.lt _ h9).1
            have hown9 := hown7.kept (sm_setRow w7 (w.heap.size + 1) #[.int .i64 yb, .int .i64 yk, .int .i64 yv, .int .i64 ym, .int .i64 yz, .int .i64 yo]) (.inr fun h9 => by have := hne7 _ h9; omega)
            obtain ⟨-, a7, c7, rfl, hl7⟩ := owns_ents (F := Plus F w.heap.size) hown9 (fun b h9 => .inr (by have := hne7 _ h9; omega))
            clear hown9 hown7 hgrow7 hown6 hgrow6 hown5 hgrow5 ho7 ho6 ho5 ho4 hx5 hx4 hr6 hr5 hr4 o0 o1 o2 o3 o4 o5
            go_wp2_with fail
            all_goals exact bodyPost_ret (results_tct (p := 4) (q := 5) (r := 6) rfl _ _ _ _ _ _ _ rfl (setRow_heap _ _ _ _ _ _ hr7) Try.underlying28 rfl entry_info) rfl ⟨_, _, _, rfl, (by rw [HLL.out]; first | exact hl7 | (have h9 := hl7; rw [show k + 1 + (len - (k + 1)) = len by omega] at h9; exact h9)), below_setRow b7 (show w.heap.size ≤ w.heap.size + 1 by omega) _⟩
end Go.Proofs.Ytigmjpkhpoolkaa.Ents
