/- Texts that belong together, part 12. -/
import Derived.Test.YtlmlmgegnnikeaaPack11
import Derived.Laws.AppendOwnNone

/- Lists of sectors behind empty ones that the call owns. -/
namespace Go.Proofs.Ytlmlmgegnnikeaa
open Go.RowKit Plan ZnsMath

theorem grown_same (w : World) (k : Option Nat) : w.grownBy w k := ⟨rfl, rfl, rfl, Nat.le_refl _, fun _ _ _ => rfl⟩
/-- a list behind an empty one that the call owns -/
theorem append_list {w : World} {ops : Array Oper} {rest : List Oper} {o : Oper} {a : Act} {Q : Exit → Act → World → Prop} (hgd : o.guard = none) (s x : Operand)
    (ho : o.op = .call { callee := .builtin .append, args := #[s, x], argTypes := #[46, 46] })
    (base : Nat) (v : Value) (hs : a.eval s = v) (hown : w.ownsRow base 9 1 v 0 []) (sa : Option Addr) (m c : Nat) (L : List ByteArray) (hx : a.eval x = .slice sa m c) (hl : IsStrs w sa m c L) (hm : m ≤ 1000000) (hbase : base ≤ w.heap.size)
    (h : ∀ v' w', w'.ownsRow base 9 1 v' m (strs L) → w.grownBy w' v.ownBlock → wpList Try.prog ops Q rest (a.put o.dst v') w') : wpList Try.prog ops Q (o :: rest) a w := by
  obtain ⟨i1, hi1, hy0, hy1, hy2⟩ := info_parts str_info
  cases sa with
  | none =>
    obtain ⟨rfl, rfl⟩ := hl.cap_le.2.2 rfl
    obtain rfl : L = [] := List.length_eq_zero_iff.1 hl.length
    exact wpList_append_own_none hgd s x 46 ho base 9 i1 1 Try.underlying46 hi1 v 0 [] hs hown hx (h v w hown (grown_same _ _))
  | some ad =>
    refine wpList_append_own w hgd s x 46 ho base 9 i1 _ 1 16 Try.underlying46 hi1 hy0 hy1 hy2 rfl (by decide) v 0 [] hs hown ad m c (strs L) hx (by rw [strs_length, hl.length]; omega) (strs_news hl) (strs_cells L) (by unfold maxLen; omega) (by omega) hbase ?_
    intro v' w' h1 h2 _
    rw [Nat.zero_add, List.nil_append] at h1
    exact h v' w' h1 h2
theorem append_one {w : World} {ops : Array Oper} {rest : List Oper} {o : Oper} {a : Act} {Q : Exit → Act → World → Prop} (hgd : o.guard = none) (p x : Operand)
    (ho : o.op = .call { callee := .builtin .append, args := #[p, x], argTypes := #[46, 46] })
    (base : Nat) (v : Value) (m : Nat) (L : List ByteArray) (hs : a.eval p = v) (hown : w.ownsRow base 9 1 v m (strs L)) (g : Nat) (s : ByteArray) (hx : a.eval x = .slice (some ⟨g, 0, none⟩) 1 1) (hc : w.cell? ⟨g, 0, none⟩ = some (.string s)) (hm : m ≤ 1000000) (hbase : base ≤ w.heap.size)
    (h : ∀ v' w', w'.ownsRow base 9 1 v' (m + 1) (strs (L ++ [s])) → w.grownBy w' v.ownBlock → wpList Try.prog ops Q rest (a.put o.dst v') w') : wpList Try.prog ops Q (o :: rest) a w := by
  obtain ⟨i1, hi1, hy0, hy1, hy2⟩ := info_parts str_info
  refine wpList_append_own w hgd p x 46 ho base 9 i1 _ 1 16 Try.underlying46 hi1 hy0 hy1 hy2 rfl (by decide) v m (strs L) hs hown ⟨g, 0, none⟩ 1 1 [.string s] hx rfl ?_ (by simp [Value.oneCell']) (by unfold maxLen; omega) (by omega) hbase ?_
  · intro j u hu
    have hj := (List.getElem?_eq_some_iff.1 hu).1
    obtain rfl : j = 0 := by simp at hj; omega
    obtain rfl : Value.string s = u := by simpa using hu
    rw [Addr.add_lit]
    exact hc
  · intro v' w' h1 h2 _
    exact h v' w' (by rw [strs_app]; exact h1) h2
/-- the store of a number -/
theorem run_store_int (w : World) (ty : TypeId) (b o : Nat) (k : IntKind) (n : Int) (hc : ∃ u, w.cell? ⟨b, o, none⟩ = some u) (hf : w.frozen? ⟨b, o, none⟩ = false) (hi : (Try.prog.info? ty).map (·.size) = some 1) :
    (storeVar ty ⟨b, o, none⟩ (.int k n)).run Try.prog w = .ok () (w.setCell ⟨b, o, none⟩ (.int k n)) := by
  obtain ⟨u, hu⟩ := hc
  cases hq : Try.prog.info? ty with
  | none => simp [hq] at hi
  | some i =>
    have hs : i.size = 1 := by simpa [hq] using hi
    have hst := run_store Try.prog w ⟨b, o, none⟩ (.int k n) .plain rfl
    rw [hu, hf] at hst
    simp only [Bool.false_eq_true, if_false] at hst
    have ha : (⟨b, o, none⟩ : Addr).add 0 = ⟨b, o, none⟩ := by rw [Addr.add_lit, Nat.add_zero]
    simp [storeVar, sizeOf, typeInfo, hq, Value.cells, hs, storeCells, ha, hst]
theorem wp_store_int {op : Oper} {a : Act} {w : World} {K : Act → World → Prop} {Q : Exit → Act → World → Prop} (ty : TypeId) (x y : Operand) (ho : op.op = .store ty x y)
    (b o : Nat) (k : IntKind) (n : Int) (hx : a.eval x = .pointer (some ⟨b, o, none⟩)) (hy : a.eval y = .int k n) (hc : ∃ u, w.cell? ⟨b, o, none⟩ = some u) (hf : w.frozen? ⟨b, o, none⟩ = false) (hi : (Try.prog.info? ty).map (·.size) = some 1)
    (h : K (a.put op.dst undef) (w.setCell ⟨b, o, none⟩ (.int k n))) : op.wp Try.prog a w K Q := by
  unfold Oper.wp execOp
  simp only [ho, hx, hy, Instr.storeAt, Instr.sureAddr, Sem.run_bind, Sem.run_pure, Result.andThen_ok, run_store_int w ty b o k n hc hf hi]
  exact h
theorem int_info1 : (Try.prog.info? 3).map (·.size) = some 1 := by kernel_rfl
/-- blocks below what the call owns stay -/
theorem row_grow {w w' : World} {B n k : Nat} {t : TypeId} {v : Value} {xs : List Value} {o : Obj} (ho : w.ownsRow B t 1 v n xs) (hg : w.grownBy w' v.ownBlock) (r : w.heap[k]? = some o) (hk : k < B) : w'.heap[k]? = some o :=
  (hg.block k (lt_of_block r) (fun e => by have := (ho.lt k e.symm).1; omega)).trans r
theorem strs_empty (w : World) {H : Nat} (hH : w.heap.size = H) : (w.alloc (.cells #[] 9)).ownsRow H 9 1 (.slice (some ⟨H, 0, none⟩) 0 0) 0 [] := by
  subst hH
  exact World.ownsRow_made (base := w.heap.size) (e := 9) (size := 1) w #[] 0 (Nat.le_refl _) (by unfold maxLen; decide) rfl
end Go.Proofs.Ytlmlmgegnnikeaa

/- The walk of the document's own Append to an open zone. -/
namespace Go.Proofs.Ytlmlmgegnnikeaa
open Go.RowKit Plan ZnsMath

theorem zone_small {D : Dev} {i sl : Nat} {z : Zone} (hc : checkE D = 0) (hzk : D.zones[i]? = some z) (hsl : z.sectors.length = sl) : sl ≤ 1000000 := by
  have hr := check_parts hc
  have h1 := config_parts hr.1
  have h2 := hr.2.1
  unfold rightsB at h2
  rw [List.all_eq_true] at h2
  have h3 := h2 z (List.mem_of_getElem? hzk)
  unfold rightB at h3
  simp only [Bool.and_eq_true, decide_eq_true_eq] at h3
  omega
set_option maxHeartbeats 2000000 in
set_option maxRecDepth 20000 in
theorem refAppend_open_more (F : Nat → Prop) (D : Dev) (a : Option Addr) (len cap i : Nat) (s : ByteArray) (w : World) (hF : ∀ b, F b → b < w.heap.size) (hz : ZonesIn w F a len cap D.zones) (hm : len ≤ 1000000) (hi : i < len) (hc : checkE D = 0) (hs : s.size = 40) (h5 : stateAt D (i : Int) ≠ 5) (h4 : stateAt D (i : Int) ≠ 4) (ho : openB (stateAt D (i : Int)) = true) (hfull : ((D.zones.getD i empty).sectors.length : Int) + 1 ≠ D.size) :
    Calls Try.prog 25 #[devV D a len cap, .int .i64 (i : Int), .string s] w (AppPost w F len (withZ D i ⟨(D.zones.getD i empty).state, (D.zones.getD i empty).durable, (D.zones.getD i empty).sectors ++ [s]⟩) ((D.zones.getD i empty).sectors.length : Int) 0) := by
  have hck := fun W (h : Below w.heap.size w W) => refCheck05_any D a len cap W (hz.on (Agree.below h)).is
  have hiI : (i : Int) < (len : Int) := by omega
  obtain ⟨x, z, sa, sl, sc, rfl, hzk, hza, hzs⟩ := hz.zone i hi
  have hxb := zone_block hza
  have hsl := hzs.1.length
  have hslm : sl ≤ 1000000 := zone_small hc hzk hsl
  have hsm : ∀ t ∈ z.sectors ++ [s], t.size ≤ maxLen := by
    intro t ht
    rcases List.mem_append.1 ht with h | h
    · exact strs_small hzs.1 t h
    · obtain rfl : t = s := by simpa using h
      unfold maxLen; omega
  have hs1 : ((s.size : Int) != 40) = false := by simp; omega
  rw [hc] at hck
  rw [getD_of hzk, hsl]
  rw [stateAt_of hzk] at ho h5 h4
  have e5 : (z.state == 5) = false := by simp [h5]
  have e4 : (z.state == 4) = false := by simp [h4]
  have hop := fun W => refOpened_any z.state W
  rw [ho] at hop
  have hA : Below w.heap.size w ((w.alloc (devRow D.size D.maxOpen D.maxActive (some x) len cap)).alloc (devRow 0 0 0 none 0 0)) := ((Below.refl _ _).alloc (Nat.le_refl _) _).alloc (by simp) _
  rw [getD_of hzk, hsl] at hfull
  have hfe : (((sl : Int) + 1) == D.size) = false := by simp [hfull]
  unfold AppPost
  have HK := Lib.hid hck
  have HO := Lib.hid hop
  have HA := Lib.hid hA
  have HZ := Lib.hid hza
  clear hck hop hA hza h5 h4 hs ho hc hfull
  obtain ⟨size, op, act, Z⟩ := D
  obtain ⟨st, du, L⟩ := z
  try simp only at hsm hsl
  go_enter Try.func25, Try.ntmps25
  go_wp2_with (first
    | (go_at_call 36; ((with_reducible refine (HK.out _ HA.out).mono ?_); rintro e w1 ⟨rfl, hb1⟩; have hx1 := row_on hb1 (heap_first2 w _ _) (by simp only [World.size_alloc]; omega); have hr1 := row_on hb1 (heap_second w _ _) (by simp only [World.size_alloc]; omega); obtain ⟨y1, d0, d1, d2, d3⟩ := row4 hx1; have b1 := HA.out.trans (hb1.mono (by simp only [World.size_alloc]; omega)); obtain ⟨zc0, zc1, zc2⟩ := HZ.out.on b1 hxb; have b3 := b1.alloc b1.size (devRow size op act (some x) len cap); obtain ⟨zd0, zd1, zd2⟩ := HZ.out.on b3 hxb; have hx3 := row_al hx1 (devRow size op act (some x) len cap); have hr3 := row_al hr1 (devRow size op act (some x) len cap); have hv3 := heap_alloc_new w1 (devRow size op act (some x) len cap); obtain ⟨y3, p0, p1, p2, p3⟩ := row4 hx3; obtain ⟨v3, l0, l1, l2, l3⟩ := row4 hv3; have n2 := lt_of_block hr1))
    | (go_at_call 52; ((with_reducible refine (HO.out _).mono ?_); rintro e wo ⟨rfl, rfl⟩))
    | (at_builtin; have E0 := strs_empty ((w1.alloc (devRow size op act (some x) len cap)).alloc (zoneRow st du sa sl sc)) (H := w1.heap.size + 1 + 1) (by simp only [World.size_alloc]); have c4 := ((Below.refl ((w1.alloc (devRow size op act (some x) len cap))).heap.size ((w1.alloc (devRow size op act (some x) len cap)))).alloc (Nat.le_refl _) (zoneRow st du sa sl sc)).alloc (by (try simp only [World.size_alloc]); omega) (.cells #[] 9); refine append_list rfl _ _ rfl (w1.heap.size + 1 + 1) (.slice (some ⟨w1.heap.size + 1 + 1, 0, none⟩) 0 0) rfl E0 sa sl sc L rfl ((hzs.on (Agree.below b3)).1.on c4 (Nat.le_refl _)) hslm (by (try simp only [World.size_alloc]); omega) ?_; intro v5 w5 hown5 hgrow5; have hx5 := row_grow E0 hgrow5 (row_al (row_al hx3 (zoneRow st du sa sl sc)) (.cells #[] 9)) (by omega); have hr5 := row_grow E0 hgrow5 (row_al (row_al hr3 (zoneRow st du sa sl sc)) (.cells #[] 9)) (by omega); have hv5 := row_grow E0 hgrow5 (row_al (row_al hv3 (zoneRow st du sa sl sc)) (.cells #[] 9)) (by omega); have hq3 : ((w1.alloc (devRow size op act (some x) len cap)).alloc (zoneRow st du sa sl sc)).heap[w1.heap.size + 1]? = some (zoneRow st du sa sl sc) := (by first | (have := heap_alloc_new ((w1.alloc (devRow size op act (some x) len cap))) (zoneRow st du sa sl sc); rwa [World.size_alloc] at this) | exact heap_alloc_new _ _); have hq5 := row_grow E0 hgrow5 (row_al hq3 (.cells #[] 9)) (by omega); have c5 := below_grow c4 E0 (by (try simp only [World.size_alloc]); omega) (by (try simp only [World.size_alloc]); omega) hgrow5; have own6 := Lib.hid (owns_on hown5 ((Below.refl _ _).alloc (Nat.le_refl _) (.cells #[.string s] 9))); clear E0 hown5 hgrow5)
    | (at_builtin; have m5 := c5.size; refine append_one rfl _ _ rfl (w1.heap.size + 1 + 1) v5 sl L rfl own6.out w5.heap.size s rfl (cell_of_row _ _ 0 _ _ _ (heap_alloc_new w5 _)) hslm (by have := lt_of_block hq5; (try simp only [World.size_alloc] at *); omega) ?_; intro v7 w7 hown7 hgrow7; obtain ⟨g7, c7v, rfl, hg7, hl7⟩ := owned_some hown7 (by omega); have hx7 := row_grow own6.out hgrow7 (row_al hx5 (.cells #[.string s] 9)) (by omega); have hr7 := row_grow own6.out hgrow7 (row_al hr5 (.cells #[.string s] 9)) (by omega); have hv7 := row_grow own6.out hgrow7 (row_al hv5 (.cells #[.string s] 9)) (by omega); have hq7 := row_grow own6.out hgrow7 (row_al hq5 (.cells #[.string s] 9)) (by omega); have c7 := below_grow (c5.alloc c5.size (.cells #[.string s] 9)) own6.out (by (try simp only [World.size_alloc]); omega) (by have := c5.size; (try simp only [World.size_alloc] at *); omega) hgrow7; have S7 := Lib.hid (strsIn_own (F := fun b => b = g7) hown7 hsm rfl); obtain ⟨y7, d0, d1, d2, d3⟩ := row4 hx7; obtain ⟨yq7, q0, q1, q2⟩ := row3 hq7; have f7 := row_free hq7 2; clear hown7 hgrow7))
  obtain ⟨n1, hn1⟩ : ∃ n1, n1 = w1.heap.size + 1 := ⟨_, rfl⟩
  have n0 : w.heap.size + 1 < w1.heap.size := n2
  have hx9 := (Below.heap_setCell w7 ⟨w1.heap.size + 1, 2, none⟩ (.slice (some ⟨g7, 0, none⟩) (sl + 1) c7v) w.heap.size (by show w.heap.size ≠ w1.heap.size + 1; omega)).trans hx7
  have hr9 := (Below.heap_setCell w7 ⟨w1.heap.size + 1, 2, none⟩ (.slice (some ⟨g7, 0, none⟩) (sl + 1) c7v) (w.heap.size + 1) (by show w.heap.size + 1 ≠ w1.heap.size + 1; omega)).trans hr7
  have hv9 := (Below.heap_setCell w7 ⟨w1.heap.size + 1, 2, none⟩ (.slice (some ⟨g7, 0, none⟩) (sl + 1) c7v) (w1.heap.size) (by show w1.heap.size ≠ w1.heap.size + 1; omega)).trans hv7
  have hq9 : (w7.setCell ⟨w1.heap.size + 1, 2, none⟩ (.slice (some ⟨g7, 0, none⟩) (sl + 1) c7v)).heap[w1.heap.size + 1]? = some (zoneRow st du (some ⟨g7, 0, none⟩) (sl + 1) c7v) := setCell_row hq7 2 (.slice (some ⟨g7, 0, none⟩) (sl + 1) c7v)
  have c9 := c7.setCell (show ((w1.alloc (devRow size op act (some x) len cap))).heap.size ≤ (⟨w1.heap.size + 1, 2, none⟩ : Addr).block by show ((w1.alloc (devRow size op act (some x) len cap))).heap.size ≤ w1.heap.size + 1; (try simp only [World.size_alloc]); omega) (.slice (some ⟨g7, 0, none⟩) (sl + 1) c7v)
  have S9 := S7.out.on (Agree.setCell (F := fun b => b = g7) (p := ⟨w1.heap.size + 1, 2, none⟩) (show ¬ w1.heap.size + 1 = g7 by omega) (.slice (some ⟨g7, 0, none⟩) (sl + 1) c7v))
  generalize w7.setCell ⟨w1.heap.size + 1, 2, none⟩ (.slice (some ⟨g7, 0, none⟩) (sl + 1) c7v) = w9 at hx9 hr9 hv9 hq9 c9 S9 ⊢
  clear S7 hx7 hr7 hv7 hq7 q0 q1 q2 f7 d0 d1 d2 d3
  have hz3 := (hz.on (Agree.below b3)).mono (G := Plus F n1) (fun _ _ h => .inl h)

  refine Plan.start (fun W => DevAt W (w1.heap.size) size op act (some x) len cap ∧ W.cell? ⟨w1.heap.size + 1, 0, none⟩ = some (.int .i64 st) ∧ W.cell? ⟨w1.heap.size + 1, 1, none⟩ = some (.int .i64 du) ∧ W.cell? ⟨w1.heap.size + 1, 2, none⟩ = some (.slice (some ⟨g7, 0, none⟩) (sl + 1) c7v)) [(0, true), (1, true), (2, true), (4, true), (5, true), (6, true), (7, true), (3, false), (8, false), (9, true), (10, true)] (by kernel_rfl) (by kernel_rfl) (by kernel_rfl) (by kernel_rfl) ⟨(row4 hv9).2, (row3 hq9).2⟩ ?_
  simp only [List.map_cons, List.map_nil, List.getElem?_toArray, List.getElem?_cons_zero, List.getElem?_cons_succ]
  repeat (first | (refine Plan.take ?_ (by rfl) ?_ ?_; rotate_left; (· rintro w9 ⟨⟨e0, e1, e2, e3⟩, z0, z1, z2⟩; go_simp; (try rw [if_neg (by omega)]); all_goals (with_reducible rfl)); simp only [Act.put, List.setIfInBounds_toArray, List.set_cons_zero, List.set_cons_succ]) | (refine Plan.pass (by rfl) ?_; simp only [Act.put, List.setIfInBounds_toArray, List.set_cons_zero, List.set_cons_succ]))
  have b9 := b3.trans (c9.mono b3.size)
  have hz9 := hz3.on (Agree.below c9.drew)
  have m9 := c9.size
  have hs9 : StrsIn w9.drew (Plus F n1) (some ⟨g7, 0, none⟩) (sl + 1) c7v (L ++ [s]) := StrsIn.mono (F := fun b => b = g7) (S9.on (Agree.below (Below.refl _ _).drew)) (fun b _ hb => .inr (by (try simp only [World.size_alloc] at *); omega))
  refine Plan.call (by rfl) 54 _ ?_ (with_agg (Plus F n1) ⟨size, op, act, Z⟩ (some x) len cap i st du (L ++ [s]) (some ⟨g7, 0, none⟩) (sl + 1) c7v w9.drew hz9 hi hm hs9) ?_
  · go_simp
  rintro e w10 ⟨a4, c4, rfl, hz10, hb10⟩
  have hb10 := (Below.refl w9.heap.size w9).drew.trans hb10
  have hr10 := row_on hb10 hr9 (lt_of_block hr9)
  have hv10 := row_on hb10 hv9 (lt_of_block hv9)
  have hq10 := row_on hb10 hq9 (lt_of_block hq9)
  have b10 := b9.trans (hb10.mono b9.size)
  refine ⟨_, rfl, ⟨(row4 hv10).2, (row3 hq10).2⟩, ?_⟩
  simp only [Act.put, List.setIfInBounds_toArray, List.set_cons_zero, List.set_cons_succ]
  have b11 := below_setRow b10 (show w.heap.size ≤ w.heap.size + 1 by omega) #[.int .i64 size, .int .i64 op, .int .i64 act, .slice a4 len c4]
  have hv11 := (setRow_other w10 (w.heap.size + 1) (w1.heap.size) #[.int .i64 size, .int .i64 op, .int .i64 act, .slice a4 len c4] (by omega)).trans hv10
  have hq11 := (setRow_other w10 (w.heap.size + 1) (w1.heap.size + 1) #[.int .i64 size, .int .i64 op, .int .i64 act, .slice a4 len c4] (by omega)).trans hq10
  have hlt9 := lt_of_block hr9
  refine Plan.store (by rfl) 24 _ _ rfl (w.heap.size + 1) #[.int .i64 size, .int .i64 op, .int .i64 act, .slice a4 len c4] (by rfl) (by rfl) 24 _ hr10 dev_info rfl (by simp [Value.oneCell']) ⟨(row4 hv11).2, (row3 hq11).2⟩ ?_
  simp only [Act.put]
  repeat (first | (refine Plan.take ?_ (by rfl) ?_ ?_; rotate_left; (· rintro w9 ⟨⟨e0, e1, e2, e3⟩, z0, z1, z2⟩; go_simp; (try rw [if_neg (by omega)]); all_goals (with_reducible rfl)); simp only [Act.put, List.setIfInBounds_toArray, List.set_cons_zero, List.set_cons_succ]) | (refine Plan.pass (by rfl) ?_; simp only [Act.put, List.setIfInBounds_toArray, List.set_cons_zero, List.set_cons_succ]))
  refine Plan.ends ?_
  go_wp2_with fail
  have hz11 := hz10.on (Agree.row (by
    rintro (h | h)
    · exact plus_not hF (by omega) (by omega) h
    · have h : w9.heap.size ≤ w.heap.size + 1 := h
      omega : ¬ Plus (Plus F n1) w9.drew.heap.size (w.heap.size + 1)) #[.int .i64 size, .int .i64 op, .int .i64 act, .slice a4 len c4])
  refine bodyPost_ret (results_cell_tmp2 (p := 6) (q := 7) (r := 8) rfl _ _ _ _ _ _ _ rfl (setRow_heap _ _ _ _ _ _ hr10) Try.underlying24 rfl dev_info) rfl ⟨a4, c4, ?_, hz11.mono ?_, b11⟩
  · have hwr : IntKind.i64.wrap (sl : Int) = (sl : Int) := by rw [IntKind.wrap_i64]; omega
    simp [hwr, withZ]
  have m10 := b9.size
  rintro b - ((h | h) | h)
  · exact .inl h
  · exact .inr (by omega)
  · exact .inr (Nat.le_trans m10 h)
set_option maxHeartbeats 2000000 in
set_option maxRecDepth 20000 in
theorem refAppend_open_full (F : Nat → Prop) (D : Dev) (a : Option Addr) (len cap i : Nat) (s : ByteArray) (w : World) (hF : ∀ b, F b → b < w.heap.size) (hz : ZonesIn w F a len cap D.zones) (hm : len ≤ 1000000) (hi : i < len) (hc : checkE D = 0) (hs : s.size = 40) (h5 : stateAt D (i : Int) ≠ 5) (h4 : stateAt D (i : Int) ≠ 4) (ho : openB (stateAt D (i : Int)) = true) (hfull : ((D.zones.getD i empty).sectors.length : Int) + 1 = D.size) :
    Calls Try.prog 25 #[devV D a len cap, .int .i64 (i : Int), .string s] w (AppPost w F len (withZ D i ⟨4, D.size, (D.zones.getD i empty).sectors ++ [s]⟩) ((D.zones.getD i empty).sectors.length : Int) 0) := by
  have hck := fun W (h : Below w.heap.size w W) => refCheck05_any D a len cap W (hz.on (Agree.below h)).is
  have hiI : (i : Int) < (len : Int) := by omega
  obtain ⟨x, z, sa, sl, sc, rfl, hzk, hza, hzs⟩ := hz.zone i hi
  have hxb := zone_block hza
  have hsl := hzs.1.length
  have hslm : sl ≤ 1000000 := zone_small hc hzk hsl
  have hsm : ∀ t ∈ z.sectors ++ [s], t.size ≤ maxLen := by
    intro t ht
    rcases List.mem_append.1 ht with h | h
    · exact strs_small hzs.1 t h
    · obtain rfl : t = s := by simpa using h
      unfold maxLen; omega
  have hs1 : ((s.size : Int) != 40) = false := by simp; omega
  rw [hc] at hck
  rw [getD_of hzk, hsl]
  rw [stateAt_of hzk] at ho h5 h4
  have e5 : (z.state == 5) = false := by simp [h5]
  have e4 : (z.state == 4) = false := by simp [h4]
  have hop := fun W => refOpened_any z.state W
  rw [ho] at hop
  have hA : Below w.heap.size w ((w.alloc (devRow D.size D.maxOpen D.maxActive (some x) len cap)).alloc (devRow 0 0 0 none 0 0)) := ((Below.refl _ _).alloc (Nat.le_refl _) _).alloc (by simp) _
  rw [getD_of hzk, hsl] at hfull
  have hfe : (((sl : Int) + 1) == D.size) = true := by simp [hfull]
  unfold AppPost
  have HK := Lib.hid hck
  have HO := Lib.hid hop
  have HA := Lib.hid hA
  have HZ := Lib.hid hza
  clear hck hop hA hza h5 h4 hs ho hc hfull
  obtain ⟨size, op, act, Z⟩ := D
  obtain ⟨st, du, L⟩ := z
  try simp only at hsm hsl
  go_enter Try.func25, Try.ntmps25
  go_wp2_with (first
    | (go_at_call 36; ((with_reducible refine (HK.out _ HA.out).mono ?_); rintro e w1 ⟨rfl, hb1⟩; have hx1 := row_on hb1 (heap_first2 w _ _) (by simp only [World.size_alloc]; omega); have hr1 := row_on hb1 (heap_second w _ _) (by simp only [World.size_alloc]; omega); obtain ⟨y1, d0, d1, d2, d3⟩ := row4 hx1; have b1 := HA.out.trans (hb1.mono (by simp only [World.size_alloc]; omega)); obtain ⟨zc0, zc1, zc2⟩ := HZ.out.on b1 hxb; have b3 := b1.alloc b1.size (devRow size op act (some x) len cap); obtain ⟨zd0, zd1, zd2⟩ := HZ.out.on b3 hxb; have hx3 := row_al hx1 (devRow size op act (some x) len cap); have hr3 := row_al hr1 (devRow size op act (some x) len cap); have hv3 := heap_alloc_new w1 (devRow size op act (some x) len cap); obtain ⟨y3, p0, p1, p2, p3⟩ := row4 hx3; obtain ⟨v3, l0, l1, l2, l3⟩ := row4 hv3; have n2 := lt_of_block hr1))
    | (go_at_call 52; ((with_reducible refine (HO.out _).mono ?_); rintro e wo ⟨rfl, rfl⟩))
    | (at_builtin; have E0 := strs_empty ((w1.alloc (devRow size op act (some x) len cap)).alloc (zoneRow st du sa sl sc)) (H := w1.heap.size + 1 + 1) (by simp only [World.size_alloc]); have c4 := ((Below.refl ((w1.alloc (devRow size op act (some x) len cap))).heap.size ((w1.alloc (devRow size op act (some x) len cap)))).alloc (Nat.le_refl _) (zoneRow st du sa sl sc)).alloc (by (try simp only [World.size_alloc]); omega) (.cells #[] 9); refine append_list rfl _ _ rfl (w1.heap.size + 1 + 1) (.slice (some ⟨w1.heap.size + 1 + 1, 0, none⟩) 0 0) rfl E0 sa sl sc L rfl ((hzs.on (Agree.below b3)).1.on c4 (Nat.le_refl _)) hslm (by (try simp only [World.size_alloc]); omega) ?_; intro v5 w5 hown5 hgrow5; have hx5 := row_grow E0 hgrow5 (row_al (row_al hx3 (zoneRow st du sa sl sc)) (.cells #[] 9)) (by omega); have hr5 := row_grow E0 hgrow5 (row_al (row_al hr3 (zoneRow st du sa sl sc)) (.cells #[] 9)) (by omega); have hv5 := row_grow E0 hgrow5 (row_al (row_al hv3 (zoneRow st du sa sl sc)) (.cells #[] 9)) (by omega); have hq3 : ((w1.alloc (devRow size op act (some x) len cap)).alloc (zoneRow st du sa sl sc)).heap[w1.heap.size + 1]? = some (zoneRow st du sa sl sc) := (by first | (have := heap_alloc_new ((w1.alloc (devRow size op act (some x) len cap))) (zoneRow st du sa sl sc); rwa [World.size_alloc] at this) | exact heap_alloc_new _ _); have hq5 := row_grow E0 hgrow5 (row_al hq3 (.cells #[] 9)) (by omega); have c5 := below_grow c4 E0 (by (try simp only [World.size_alloc]); omega) (by (try simp only [World.size_alloc]); omega) hgrow5; have own6 := Lib.hid (owns_on hown5 ((Below.refl _ _).alloc (Nat.le_refl _) (.cells #[.string s] 9))); clear E0 hown5 hgrow5)
    | (at_builtin; have m5 := c5.size; refine append_one rfl _ _ rfl (w1.heap.size + 1 + 1) v5 sl L rfl own6.out w5.heap.size s rfl (cell_of_row _ _ 0 _ _ _ (heap_alloc_new w5 _)) hslm (by have := lt_of_block hq5; (try simp only [World.size_alloc] at *); omega) ?_; intro v7 w7 hown7 hgrow7; obtain ⟨g7, c7v, rfl, hg7, hl7⟩ := owned_some hown7 (by omega); have hx7 := row_grow own6.out hgrow7 (row_al hx5 (.cells #[.string s] 9)) (by omega); have hr7 := row_grow own6.out hgrow7 (row_al hr5 (.cells #[.string s] 9)) (by omega); have hv7 := row_grow own6.out hgrow7 (row_al hv5 (.cells #[.string s] 9)) (by omega); have hq7 := row_grow own6.out hgrow7 (row_al hq5 (.cells #[.string s] 9)) (by omega); have c7 := below_grow (c5.alloc c5.size (.cells #[.string s] 9)) own6.out (by (try simp only [World.size_alloc]); omega) (by have := c5.size; (try simp only [World.size_alloc] at *); omega) hgrow7; have S7 := Lib.hid (strsIn_own (F := fun b => b = g7) hown7 hsm rfl); obtain ⟨y7, d0, d1, d2, d3⟩ := row4 hx7; obtain ⟨yq7, q0, q1, q2⟩ := row3 hq7; have f7 := row_free hq7 2; clear hown7 hgrow7))
  obtain ⟨n1, hn1⟩ : ∃ n1, n1 = w1.heap.size + 1 := ⟨_, rfl⟩
  have n0 : w.heap.size + 1 < w1.heap.size := n2
  have hx9 := (Below.heap_setCell w7 ⟨w1.heap.size + 1, 2, none⟩ (.slice (some ⟨g7, 0, none⟩) (sl + 1) c7v) w.heap.size (by show w.heap.size ≠ w1.heap.size + 1; omega)).trans hx7
  have hr9 := (Below.heap_setCell w7 ⟨w1.heap.size + 1, 2, none⟩ (.slice (some ⟨g7, 0, none⟩) (sl + 1) c7v) (w.heap.size + 1) (by show w.heap.size + 1 ≠ w1.heap.size + 1; omega)).trans hr7
  have hv9 := (Below.heap_setCell w7 ⟨w1.heap.size + 1, 2, none⟩ (.slice (some ⟨g7, 0, none⟩) (sl + 1) c7v) (w1.heap.size) (by show w1.heap.size ≠ w1.heap.size + 1; omega)).trans hv7
  have hq9 : (w7.setCell ⟨w1.heap.size + 1, 2, none⟩ (.slice (some ⟨g7, 0, none⟩) (sl + 1) c7v)).heap[w1.heap.size + 1]? = some (zoneRow st du (some ⟨g7, 0, none⟩) (sl + 1) c7v) := setCell_row hq7 2 (.slice (some ⟨g7, 0, none⟩) (sl + 1) c7v)
  have c9 := c7.setCell (show ((w1.alloc (devRow size op act (some x) len cap))).heap.size ≤ (⟨w1.heap.size + 1, 2, none⟩ : Addr).block by show ((w1.alloc (devRow size op act (some x) len cap))).heap.size ≤ w1.heap.size + 1; (try simp only [World.size_alloc]); omega) (.slice (some ⟨g7, 0, none⟩) (sl + 1) c7v)
  have S9 := S7.out.on (Agree.setCell (F := fun b => b = g7) (p := ⟨w1.heap.size + 1, 2, none⟩) (show ¬ w1.heap.size + 1 = g7 by omega) (.slice (some ⟨g7, 0, none⟩) (sl + 1) c7v))
  generalize w7.setCell ⟨w1.heap.size + 1, 2, none⟩ (.slice (some ⟨g7, 0, none⟩) (sl + 1) c7v) = w9 at hx9 hr9 hv9 hq9 c9 S9 ⊢
  clear S7 hx7 hr7 hv7 hq7 q0 q1 q2 f7 d0 d1 d2 d3
  have hz3 := (hz.on (Agree.below b3)).mono (G := Plus F n1) (fun _ _ h => .inl h)

  refine Plan.start (fun W => DevAt W w.heap.size size op act (some x) len cap) [(0, true), (1, true), (2, true), (3, false), (4, true), (5, false)] (by kernel_rfl) (by kernel_rfl) (by kernel_rfl) (by kernel_rfl) (row4 hx9).2 ?_
  simp only [List.map_cons, List.map_nil, List.getElem?_toArray, List.getElem?_cons_zero, List.getElem?_cons_succ]
  repeat (first | (refine Plan.take ?_ (by rfl) ?_ ?_; rotate_left; (· rintro w9 ⟨e0, e1, e2, e3⟩; go_simp; (try rw [if_neg (by omega)]); all_goals (with_reducible rfl)); simp only [Act.put, List.setIfInBounds_toArray, List.set_cons_zero, List.set_cons_succ]) | (refine Plan.pass (by rfl) ?_; simp only [Act.put, List.setIfInBounds_toArray, List.set_cons_zero, List.set_cons_succ]))
  have k0 : w9.drew.cell? ⟨w1.heap.size + 1, 0, none⟩ = some (.int .i64 st) := (row3 hq9).2.1
  have f0 : w9.drew.frozen? ⟨w1.heap.size + 1, 0, none⟩ = false := row_free hq9 0
  have hx10 : (w9.drew.setCell ⟨w1.heap.size + 1, 0, none⟩ (.int .i64 4)).heap[w.heap.size]? = _ := (Below.heap_setCell w9.drew ⟨w1.heap.size + 1, 0, none⟩ (.int .i64 4) w.heap.size (by show w.heap.size ≠ w1.heap.size + 1; omega)).trans hx9
  have hr10 : (w9.drew.setCell ⟨w1.heap.size + 1, 0, none⟩ (.int .i64 4)).heap[w.heap.size + 1]? = _ := (Below.heap_setCell w9.drew ⟨w1.heap.size + 1, 0, none⟩ (.int .i64 4) (w.heap.size + 1) (by show w.heap.size + 1 ≠ w1.heap.size + 1; omega)).trans hr9
  have hv10 : (w9.drew.setCell ⟨w1.heap.size + 1, 0, none⟩ (.int .i64 4)).heap[w1.heap.size]? = _ := (Below.heap_setCell w9.drew ⟨w1.heap.size + 1, 0, none⟩ (.int .i64 4) (w1.heap.size) (by show w1.heap.size ≠ w1.heap.size + 1; omega)).trans hv9
  have hq10 : (w9.drew.setCell ⟨w1.heap.size + 1, 0, none⟩ (.int .i64 4)).heap[w1.heap.size + 1]? = some (zoneRow 4 du (some ⟨g7, 0, none⟩) (sl + 1) c7v) := setCell_row (w := w9.drew) hq9 0 (.int .i64 4)
  have c10 := c9.drew.setCell (show ((w1.alloc (devRow size op act (some x) len cap))).heap.size ≤ (⟨w1.heap.size + 1, 0, none⟩ : Addr).block by show ((w1.alloc (devRow size op act (some x) len cap))).heap.size ≤ w1.heap.size + 1; (try simp only [World.size_alloc]); omega) (.int .i64 4)
  have S10 := (S9.on (Agree.below (Below.refl _ _).drew)).on (Agree.setCell (F := fun b => b = g7) (p := ⟨w1.heap.size + 1, 0, none⟩) (show ¬ w1.heap.size + 1 = g7 by omega) (.int .i64 4))
  refine Plan.carry (by rfl) (wp_store_int 3 _ _ rfl (w1.heap.size + 1) 0 .i64 4 (by rfl) (by rfl) ⟨_, k0⟩ f0 int_info1 ⟨(row4 hx10).2, ?_⟩)
  clear k0 f0
  generalize w9.drew.setCell ⟨w1.heap.size + 1, 0, none⟩ (.int .i64 4) = w10 at hx10 hr10 hv10 hq10 c10 S10 ⊢
  simp only [Act.put]
  repeat (first | (refine Plan.take ?_ (by rfl) ?_ ?_; rotate_left; (· rintro w9 ⟨e0, e1, e2, e3⟩; go_simp; (try rw [if_neg (by omega)]); all_goals (with_reducible rfl)); simp only [Act.put, List.setIfInBounds_toArray, List.set_cons_zero, List.set_cons_succ]) | (refine Plan.pass (by rfl) ?_; simp only [Act.put, List.setIfInBounds_toArray, List.set_cons_zero, List.set_cons_succ]))
  have k0 : w10.cell? ⟨w1.heap.size + 1, 1, none⟩ = some (.int .i64 du) := (row3 hq10).2.2.1
  have f0 : w10.frozen? ⟨w1.heap.size + 1, 1, none⟩ = false := row_free hq10 1
  have hx11 := (Below.heap_setCell w10 ⟨w1.heap.size + 1, 1, none⟩ (.int .i64 size) w.heap.size (by show w.heap.size ≠ w1.heap.size + 1; omega)).trans hx10
  have hr11 := (Below.heap_setCell w10 ⟨w1.heap.size + 1, 1, none⟩ (.int .i64 size) (w.heap.size + 1) (by show w.heap.size + 1 ≠ w1.heap.size + 1; omega)).trans hr10
  have hv11 := (Below.heap_setCell w10 ⟨w1.heap.size + 1, 1, none⟩ (.int .i64 size) (w1.heap.size) (by show w1.heap.size ≠ w1.heap.size + 1; omega)).trans hv10
  have hq11 : (w10.setCell ⟨w1.heap.size + 1, 1, none⟩ (.int .i64 size)).heap[w1.heap.size + 1]? = some (zoneRow 4 size (some ⟨g7, 0, none⟩) (sl + 1) c7v) := setCell_row hq10 1 (.int .i64 size)
  have c11 := c10.setCell (show ((w1.alloc (devRow size op act (some x) len cap))).heap.size ≤ (⟨w1.heap.size + 1, 1, none⟩ : Addr).block by show ((w1.alloc (devRow size op act (some x) len cap))).heap.size ≤ w1.heap.size + 1; (try simp only [World.size_alloc]); omega) (.int .i64 size)
  have S11 := S10.on (Agree.setCell (F := fun b => b = g7) (p := ⟨w1.heap.size + 1, 1, none⟩) (show ¬ w1.heap.size + 1 = g7 by omega) (.int .i64 size))
  refine Plan.carry (by rfl) (wp_store_int 3 _ _ rfl (w1.heap.size + 1) 1 .i64 size (by rfl) (by rfl) ⟨_, k0⟩ f0 int_info1 ⟨(row4 hx11).2, ?_⟩)
  clear k0 f0
  generalize w10.setCell ⟨w1.heap.size + 1, 1, none⟩ (.int .i64 size) = w11 at hx11 hr11 hv11 hq11 c11 S11 ⊢
  simp only [Act.put]
  refine Plan.ends ?_
  clear hx9 hr9 hv9 hq9 c9 S9 hx10 hr10 hv10 hq10 c10 S10
  obtain ⟨w9, rfl⟩ : ∃ w9, w9 = w11 := ⟨_, rfl⟩
  have hx9 := hx11
  have hr9 := hr11
  have hv9 := hv11
  have hq9 := hq11
  have c9 := c11
  have S9 := S11
  clear hx11 hr11 hv11 hq11 c11 S11
  go_wp2_with fail
  refine Plan.start (fun W => DevAt W (w1.heap.size) size op act (some x) len cap ∧ W.cell? ⟨w1.heap.size + 1, 0, none⟩ = some (.int .i64 4) ∧ W.cell? ⟨w1.heap.size + 1, 1, none⟩ = some (.int .i64 size) ∧ W.cell? ⟨w1.heap.size + 1, 2, none⟩ = some (.slice (some ⟨g7, 0, none⟩) (sl + 1) c7v)) [(0, true), (1, true), (2, true), (4, true), (5, true), (6, true), (7, true), (3, false), (8, false), (9, true), (10, true)] (by kernel_rfl) (by kernel_rfl) (by kernel_rfl) (by kernel_rfl) ⟨(row4 hv9).2, (row3 hq9).2⟩ ?_
  simp only [List.map_cons, List.map_nil, List.getElem?_toArray, List.getElem?_cons_zero, List.getElem?_cons_succ]
  repeat (first | (refine Plan.take ?_ (by rfl) ?_ ?_; rotate_left; (· rintro w9 ⟨⟨e0, e1, e2, e3⟩, z0, z1, z2⟩; go_simp; (try rw [if_neg (by omega)]); all_goals (with_reducible rfl)); simp only [Act.put, List.setIfInBounds_toArray, List.set_cons_zero, List.set_cons_succ]) | (refine Plan.pass (by rfl) ?_; simp only [Act.put, List.setIfInBounds_toArray, List.set_cons_zero, List.set_cons_succ]))
  have b9 := b3.trans (c9.mono b3.size)
  have hz9 := hz3.on (Agree.below c9.drew)
  have m9 := c9.size
  have hs9 : StrsIn w9.drew (Plus F n1) (some ⟨g7, 0, none⟩) (sl + 1) c7v (L ++ [s]) := StrsIn.mono (F := fun b => b = g7) (S9.on (Agree.below (Below.refl _ _).drew)) (fun b _ hb => .inr (by (try simp only [World.size_alloc] at *); omega))
  refine Plan.call (by rfl) 54 _ ?_ (with_agg (Plus F n1) ⟨size, op, act, Z⟩ (some x) len cap i 4 size (L ++ [s]) (some ⟨g7, 0, none⟩) (sl + 1) c7v w9.drew hz9 hi hm hs9) ?_
  · go_simp
  rintro e w10 ⟨a4, c4, rfl, hz10, hb10⟩
  have hb10 := (Below.refl w9.heap.size w9).drew.trans hb10
  have hr10 := row_on hb10 hr9 (lt_of_block hr9)
  have hv10 := row_on hb10 hv9 (lt_of_block hv9)
  have hq10 := row_on hb10 hq9 (lt_of_block hq9)
  have b10 := b9.trans (hb10.mono b9.size)
  refine ⟨_, rfl, ⟨(row4 hv10).2, (row3 hq10).2⟩, ?_⟩
  simp only [Act.put, List.setIfInBounds_toArray, List.set_cons_zero, List.set_cons_succ]
  have b11 := below_setRow b10 (show w.heap.size ≤ w.heap.size + 1 by omega) #[.int .i64 size, .int .i64 op, .int .i64 act, .slice a4 len c4]
  have hv11 := (setRow_other w10 (w.heap.size + 1) (w1.heap.size) #[.int .i64 size, .int .i64 op, .int .i64 act, .slice a4 len c4] (by omega)).trans hv10
  have hq11 := (setRow_other w10 (w.heap.size + 1) (w1.heap.size + 1) #[.int .i64 size, .int .i64 op, .int .i64 act, .slice a4 len c4] (by omega)).trans hq10
  have hlt9 := lt_of_block hr9
  refine Plan.store (by rfl) 24 _ _ rfl (w.heap.size + 1) #[.int .i64 size, .int .i64 op, .int .i64 act, .slice a4 len c4] (by rfl) (by rfl) 24 _ hr10 dev_info rfl (by simp [Value.oneCell']) ⟨(row4 hv11).2, (row3 hq11).2⟩ ?_
  simp only [Act.put]
  repeat (first | (refine Plan.take ?_ (by rfl) ?_ ?_; rotate_left; (· rintro w9 ⟨⟨e0, e1, e2, e3⟩, z0, z1, z2⟩; go_simp; (try rw [if_neg (by omega)]); all_goals (with_reducible rfl)); simp only [Act.put, List.setIfInBounds_toArray, List.set_cons_zero, List.set_cons_succ]) | (refine Plan.pass (by rfl) ?_; simp only [Act.put, List.setIfInBounds_toArray, List.set_cons_zero, List.set_cons_succ]))
  refine Plan.ends ?_
  go_wp2_with fail
  have hz11 := hz10.on (Agree.row (by
    rintro (h | h)
    · exact plus_not hF (by omega) (by omega) h
    · have h : w9.heap.size ≤ w.heap.size + 1 := h
      omega : ¬ Plus (Plus F n1) w9.drew.heap.size (w.heap.size + 1)) #[.int .i64 size, .int .i64 op, .int .i64 act, .slice a4 len c4])
  refine bodyPost_ret (results_cell_tmp2 (p := 6) (q := 7) (r := 8) rfl _ _ _ _ _ _ _ rfl (setRow_heap _ _ _ _ _ _ hr10) Try.underlying24 rfl dev_info) rfl ⟨a4, c4, ?_, hz11.mono ?_, b11⟩
  · have hwr : IntKind.i64.wrap (sl : Int) = (sl : Int) := by rw [IntKind.wrap_i64]; omega
    simp [hwr, withZ]
  have m10 := b9.size
  rintro b - ((h | h) | h)
  · exact .inl h
  · exact .inr (by omega)
  · exact .inr (Nat.le_trans m10 h)
end Go.Proofs.Ytlmlmgegnnikeaa

/- The walk of the document's own Append to a zone that is opened for it. -/
namespace Go.Proofs.Ytlmlmgegnnikeaa
open Go.RowKit Plan ZnsMath

set_option maxHeartbeats 2000000 in
set_option maxRecDepth 20000 in
theorem refAppend_room_more (F : Nat → Prop) (D : Dev) (a : Option Addr) (len cap i : Nat) (s : ByteArray) (w : World) (hF : ∀ b, F b → b < w.heap.size) (hz : ZonesIn w F a len cap D.zones) (hm : len ≤ 1000000) (hi : i < len) (hc : checkE D = 0) (hs : s.size = 40) (h5 : stateAt D (i : Int) ≠ 5) (h4 : stateAt D (i : Int) ≠ 4) (ho : openB (stateAt D (i : Int)) = false) (hE : roomE D i = 0) (hfull : ((D.zones.getD i empty).sectors.length : Int) + 1 ≠ D.size) :
    Calls Try.prog 25 #[devV D a len cap, .int .i64 (i : Int), .string s] w (AppPost w F len (withZ (roomR D i) i ⟨1, (D.zones.getD i empty).durable, (D.zones.getD i empty).sectors ++ [s]⟩) ((D.zones.getD i empty).sectors.length : Int) 0) := by
  have hck := fun W (h : Below w.heap.size w W) => refCheck05_any D a len cap W (hz.on (Agree.below h)).is
  have hiI : (i : Int) < (len : Int) := by omega
  obtain ⟨x, z, sa, sl, sc, rfl, hzk, hza, hzs⟩ := hz.zone i hi
  have hxb := zone_block hza
  have hsl := hzs.1.length
  have hslm : sl ≤ 1000000 := zone_small hc hzk hsl
  have hsm : ∀ t ∈ z.sectors ++ [s], t.size ≤ maxLen := by
    intro t ht
    rcases List.mem_append.1 ht with h | h
    · exact strs_small hzs.1 t h
    · obtain rfl : t = s := by simpa using h
      unfold maxLen; omega
  have hs1 : ((s.size : Int) != 40) = false := by simp; omega
  rw [hc] at hck
  rw [getD_of hzk, hsl]
  rw [stateAt_of hzk] at ho h5 h4
  have e5 : (z.state == 5) = false := by simp [h5]
  have e4 : (z.state == 4) = false := by simp [h4]
  have hop := fun W => refOpened_any z.state W
  have hzr := ready_at hzk
  rw [show ready D (i : Int) = roomR D i by unfold ready; rw [stateAt_of hzk, if_neg (by rw [ho]; decide), Int.toNat_natCast]] at hzr
  have hrm : ∀ W, Below w.heap.size w W → Calls Try.prog 53 #[devV D (some x) len cap, .int .i64 (i : Int)] W fun e w' => ∃ a' cap', e = .returned (.tuple #[devV (roomR D i) a' len cap', .int .i64 0]) ∧ ZonesIn w' (Plus F W.heap.size) a' len cap' (roomR D i).zones ∧ Below W.heap.size W w' := fun W h => by
    have := refRoom_any F D (some x) len cap i W (fun b hb => Nat.lt_of_lt_of_le (hF b hb) h.size) (hz.on (Agree.below h)) hm hi
    rw [hE] at this
    exact this
  rw [ho] at hop
  have hA : Below w.heap.size w ((w.alloc (devRow D.size D.maxOpen D.maxActive (some x) len cap)).alloc (devRow 0 0 0 none 0 0)) := ((Below.refl _ _).alloc (Nat.le_refl _) _).alloc (by simp) _
  rw [getD_of hzk, hsl] at hfull
  have hfe : (((sl : Int) + 1) == D.size) = false := by simp [hfull]
  unfold AppPost
  generalize roomR D i = D2 at *
  have HK := Lib.hid hck
  have HO := Lib.hid hop
  have HA := Lib.hid hA
  have HZ := Lib.hid hza
  have HM := Lib.hid hrm
  clear hck hop hA hza h5 h4 hs ho hc hfull hrm hE
  obtain ⟨size, op, act, Z⟩ := D
  obtain ⟨st, du, L⟩ := z
  obtain ⟨s2, o2, t2, Z2⟩ := D2
  try simp only at hsm hsl hzr
  go_enter Try.func25, Try.ntmps25
  go_wp2_with (first
    | (go_at_call 36; ((with_reducible refine (HK.out _ HA.out).mono ?_); rintro e w1 ⟨rfl, hb1⟩; have hx1 := row_on hb1 (heap_first2 w _ _) (by simp only [World.size_alloc]; omega); have hr1 := row_on hb1 (heap_second w _ _) (by simp only [World.size_alloc]; omega); obtain ⟨y1, d0, d1, d2, d3⟩ := row4 hx1; have b1 := HA.out.trans (hb1.mono (by simp only [World.size_alloc]; omega)); obtain ⟨zc0, zc1, zc2⟩ := HZ.out.on b1 hxb; have b3 := b1.alloc b1.size (devRow size op act (some x) len cap); obtain ⟨zd0, zd1, zd2⟩ := HZ.out.on b3 hxb; have hx3 := row_al hx1 (devRow size op act (some x) len cap); have hr3 := row_al hr1 (devRow size op act (some x) len cap); have hv3 := heap_alloc_new w1 (devRow size op act (some x) len cap); obtain ⟨y3, p0, p1, p2, p3⟩ := row4 hx3; obtain ⟨v3, l0, l1, l2, l3⟩ := row4 hv3; have n2 := lt_of_block hr1))
    | (go_at_call 52; ((with_reducible refine (HO.out _).mono ?_); rintro e wo ⟨rfl, rfl⟩))
    | (go_at_call 53; ((with_reducible refine (HM.out _ b3).mono ?_); rintro e w2 ⟨a2, c2, rfl, hz2, hb2⟩; have hx2 := row_al (row_on hb2 hx3 (lt_of_block hx3)) (devRow s2 o2 t2 a2 len c2); have hr2 := row_al (row_on hb2 hr3 (lt_of_block hr3)) (devRow s2 o2 t2 a2 len c2); have hv2 := row_al (row_on hb2 hv3 (lt_of_block hv3)) (devRow s2 o2 t2 a2 len c2); have hy2 := heap_alloc_new w2 (devRow s2 o2 t2 a2 len c2); obtain ⟨y2, d0, d1, d2, d3⟩ := row4 hx2; obtain ⟨yy2, k0, k1, k2, k3⟩ := row4 hy2; have b2 := b3.trans (hb2.mono b3.size); have b2' := b2.alloc b2.size (devRow s2 o2 t2 a2 len c2)))
    | ((with_reducible refine Plan.store_lit 24 (.tmp 10) _ w1.heap.size ?_ hv2 ?_ ?_ ?_ ?_ ?_ ?_); rotate_left; (· rfl); (· rfl); (· exact dev_info); (· rfl); (· simp [Value.oneCell']); simp only [Act.put]; have hv3 := setRow_heap _ _ _ #[.int .i64 s2, .int .i64 o2, .int .i64 t2, .slice a2 len c2] _ _ hv2; have hx3 := (setRow_other _ w1.heap.size w.heap.size #[.int .i64 s2, .int .i64 o2, .int .i64 t2, .slice a2 len c2] (by omega)).trans hx2; have hr3 := (setRow_other _ w1.heap.size (w.heap.size + 1) #[.int .i64 s2, .int .i64 o2, .int .i64 t2, .slice a2 len c2] (by omega)).trans hr2; have b3 := below_setRow b2' (show w.heap.size ≤ w1.heap.size from b1.size) #[.int .i64 s2, .int .i64 o2, .int .i64 t2, .slice a2 len c2]; have hz3 := (hz2.on (Agree.below ((Below.refl _ _).alloc (Nat.le_refl _) (devRow s2 o2 t2 a2 len c2)))).on (Agree.row (plus_not hF b1.size (by simp only [World.size_alloc]; omega) : ¬ Plus F (w1.alloc (devRow size op act (some x) len cap)).heap.size w1.heap.size) #[.int .i64 s2, .int .i64 o2, .int .i64 t2, .slice a2 len c2]); generalize (w2.alloc (devRow s2 o2 t2 a2 len c2)).setRow w1.heap.size #[.int .i64 s2, .int .i64 o2, .int .i64 t2, .slice a2 len c2] = w3 at hv3 hx3 hr3 b3 hz3 ⊢; obtain ⟨v3, m0, m1, m2, m3⟩ := row4 hv3; obtain ⟨y3, p0, p1, p2, p3⟩ := row4 hx3; obtain ⟨x3, z3, ta, tl, tc, hx3e, hz3k, ⟨q0, q1, q2⟩, hs3⟩ := hz3.zone i hi; subst hx3e; obtain rfl := Option.some.inj (hzr.symm.trans hz3k); have htl := hs3.1.length; obtain rfl : sl = tl := hsl.symm.trans htl; have nn3 := lt_of_block hv3)
    | (at_builtin; have E0 := strs_empty (w3.alloc (zoneRow 1 du ta sl tc)) (H := w3.heap.size + 1) (by simp only [World.size_alloc]); have c4 := ((Below.refl (w3).heap.size (w3)).alloc (Nat.le_refl _) (zoneRow 1 du ta sl tc)).alloc (by (try simp only [World.size_alloc]); omega) (.cells #[] 9); refine append_list rfl _ _ rfl (w3.heap.size + 1) (.slice (some ⟨w3.heap.size + 1, 0, none⟩) 0 0) rfl E0 ta sl tc L rfl (hs3.1.on c4 (Nat.le_refl _)) hslm (by (try simp only [World.size_alloc]); omega) ?_; intro v5 w5 hown5 hgrow5; have hx5 := row_grow E0 hgrow5 (row_al (row_al hx3 (zoneRow 1 du ta sl tc)) (.cells #[] 9)) (by omega); have hr5 := row_grow E0 hgrow5 (row_al (row_al hr3 (zoneRow 1 du ta sl tc)) (.cells #[] 9)) (by omega); have hv5 := row_grow E0 hgrow5 (row_al (row_al hv3 (zoneRow 1 du ta sl tc)) (.cells #[] 9)) (by omega); have hq3 : (w3.alloc (zoneRow 1 du ta sl tc)).heap[w3.heap.size]? = some (zoneRow 1 du ta sl tc) := (by first | (have := heap_alloc_new (w3) (zoneRow 1 du ta sl tc); rwa [World.size_alloc] at this) | exact heap_alloc_new _ _); have hq5 := row_grow E0 hgrow5 (row_al hq3 (.cells #[] 9)) (by omega); have c5 := below_grow c4 E0 (by (try simp only [World.size_alloc]); omega) (by (try simp only [World.size_alloc]); omega) hgrow5; have own6 := Lib.hid (owns_on hown5 ((Below.refl _ _).alloc (Nat.le_refl _) (.cells #[.string s] 9))); clear E0 hown5 hgrow5)
    | (at_builtin; have m5 := c5.size; refine append_one rfl _ _ rfl (w3.heap.size + 1) v5 sl L rfl own6.out w5.heap.size s rfl (cell_of_row _ _ 0 _ _ _ (heap_alloc_new w5 _)) hslm (by have := lt_of_block hq5; (try simp only [World.size_alloc] at *); omega) ?_; intro v7 w7 hown7 hgrow7; obtain ⟨g7, c7v, rfl, hg7, hl7⟩ := owned_some hown7 (by omega); have hx7 := row_grow own6.out hgrow7 (row_al hx5 (.cells #[.string s] 9)) (by omega); have hr7 := row_grow own6.out hgrow7 (row_al hr5 (.cells #[.string s] 9)) (by omega); have hv7 := row_grow own6.out hgrow7 (row_al hv5 (.cells #[.string s] 9)) (by omega); have hq7 := row_grow own6.out hgrow7 (row_al hq5 (.cells #[.string s] 9)) (by omega); have c7 := below_grow (c5.alloc c5.size (.cells #[.string s] 9)) own6.out (by (try simp only [World.size_alloc]); omega) (by have := c5.size; (try simp only [World.size_alloc] at *); omega) hgrow7; have S7 := Lib.hid (strsIn_own (F := fun b => b = g7) hown7 hsm rfl); obtain ⟨y7, d0, d1, d2, d3⟩ := row4 hx7; obtain ⟨yq7, q0, q1, q2⟩ := row3 hq7; have f7 := row_free hq7 2; clear hown7 hgrow7))
  obtain ⟨n1, hn1⟩ : ∃ n1, n1 = w1.heap.size + 1 := ⟨_, rfl⟩
  have n0 : w.heap.size + 1 < w1.heap.size := n2
  have hx9 := (Below.heap_setCell w7 ⟨w3.heap.size, 2, none⟩ (.slice (some ⟨g7, 0, none⟩) (sl + 1) c7v) w.heap.size (by show w.heap.size ≠ w3.heap.size; omega)).trans hx7
  have hr9 := (Below.heap_setCell w7 ⟨w3.heap.size, 2, none⟩ (.slice (some ⟨g7, 0, none⟩) (sl + 1) c7v) (w.heap.size + 1) (by show w.heap.size + 1 ≠ w3.heap.size; omega)).trans hr7
  have hv9 := (Below.heap_setCell w7 ⟨w3.heap.size, 2, none⟩ (.slice (some ⟨g7, 0, none⟩) (sl + 1) c7v) (w1.heap.size) (by show w1.heap.size ≠ w3.heap.size; omega)).trans hv7
  have hq9 : (w7.setCell ⟨w3.heap.size, 2, none⟩ (.slice (some ⟨g7, 0, none⟩) (sl + 1) c7v)).heap[w3.heap.size]? = some (zoneRow 1 du (some ⟨g7, 0, none⟩) (sl + 1) c7v) := setCell_row hq7 2 (.slice (some ⟨g7, 0, none⟩) (sl + 1) c7v)
  have c9 := c7.setCell (show (w3).heap.size ≤ (⟨w3.heap.size, 2, none⟩ : Addr).block by show (w3).heap.size ≤ w3.heap.size; (try simp only [World.size_alloc]); omega) (.slice (some ⟨g7, 0, none⟩) (sl + 1) c7v)
  have S9 := S7.out.on (Agree.setCell (F := fun b => b = g7) (p := ⟨w3.heap.size, 2, none⟩) (show ¬ w3.heap.size = g7 by omega) (.slice (some ⟨g7, 0, none⟩) (sl + 1) c7v))
  generalize w7.setCell ⟨w3.heap.size, 2, none⟩ (.slice (some ⟨g7, 0, none⟩) (sl + 1) c7v) = w9 at hx9 hr9 hv9 hq9 c9 S9 ⊢
  clear S7 hx7 hr7 hv7 hq7 q0 q1 q2 f7 d0 d1 d2 d3
  have hz3 : ZonesIn w3 (Plus F n1) (some x3) len c2 Z2 := hz3.mono (fun b _ h => h.imp id (fun h => by simp only [World.size_alloc] at h; omega))

  refine Plan.start (fun W => DevAt W (w1.heap.size) s2 o2 t2 (some x3) len c2 ∧ W.cell? ⟨w3.heap.size, 0, none⟩ = some (.int .i64 1) ∧ W.cell? ⟨w3.heap.size, 1, none⟩ = some (.int .i64 du) ∧ W.cell? ⟨w3.heap.size, 2, none⟩ = some (.slice (some ⟨g7, 0, none⟩) (sl + 1) c7v)) [(0, true), (1, true), (2, true), (4, true), (5, true), (6, true), (7, true), (3, false), (8, false), (9, true), (10, true)] (by kernel_rfl) (by kernel_rfl) (by kernel_rfl) (by kernel_rfl) ⟨(row4 hv9).2, (row3 hq9).2⟩ ?_
  simp only [List.map_cons, List.map_nil, List.getElem?_toArray, List.getElem?_cons_zero, List.getElem?_cons_succ]
  repeat (first | (refine Plan.take ?_ (by rfl) ?_ ?_; rotate_left; (· rintro w9 ⟨⟨e0, e1, e2, e3⟩, z0, z1, z2⟩; go_simp; (try rw [if_neg (by omega)]); all_goals (with_reducible rfl)); simp only [Act.put, List.setIfInBounds_toArray, List.set_cons_zero, List.set_cons_succ]) | (refine Plan.pass (by rfl) ?_; simp only [Act.put, List.setIfInBounds_toArray, List.set_cons_zero, List.set_cons_succ]))
  have b9 := b3.trans (c9.mono b3.size)
  have hz9 := hz3.on (Agree.below c9.drew)
  have m9 := c9.size
  have hs9 : StrsIn w9.drew (Plus F n1) (some ⟨g7, 0, none⟩) (sl + 1) c7v (L ++ [s]) := StrsIn.mono (F := fun b => b = g7) (S9.on (Agree.below (Below.refl _ _).drew)) (fun b _ hb => .inr (by (try simp only [World.size_alloc] at *); omega))
  refine Plan.call (by rfl) 54 _ ?_ (with_agg (Plus F n1) ⟨s2, o2, t2, Z2⟩ (some x3) len c2 i 1 du (L ++ [s]) (some ⟨g7, 0, none⟩) (sl + 1) c7v w9.drew hz9 hi hm hs9) ?_
  · go_simp
  rintro e w10 ⟨a4, c4, rfl, hz10, hb10⟩
  have hb10 := (Below.refl w9.heap.size w9).drew.trans hb10
  have hr10 := row_on hb10 hr9 (lt_of_block hr9)
  have hv10 := row_on hb10 hv9 (lt_of_block hv9)
  have hq10 := row_on hb10 hq9 (lt_of_block hq9)
  have b10 := b9.trans (hb10.mono b9.size)
  refine ⟨_, rfl, ⟨(row4 hv10).2, (row3 hq10).2⟩, ?_⟩
  simp only [Act.put, List.setIfInBounds_toArray, List.set_cons_zero, List.set_cons_succ]
  have b11 := below_setRow b10 (show w.heap.size ≤ w.heap.size + 1 by omega) #[.int .i64 s2, .int .i64 o2, .int .i64 t2, .slice a4 len c4]
  have hv11 := (setRow_other w10 (w.heap.size + 1) (w1.heap.size) #[.int .i64 s2, .int .i64 o2, .int .i64 t2, .slice a4 len c4] (by omega)).trans hv10
  have hq11 := (setRow_other w10 (w.heap.size + 1) (w3.heap.size) #[.int .i64 s2, .int .i64 o2, .int .i64 t2, .slice a4 len c4] (by omega)).trans hq10
  have hlt9 := lt_of_block hr9
  refine Plan.store (by rfl) 24 _ _ rfl (w.heap.size + 1) #[.int .i64 s2, .int .i64 o2, .int .i64 t2, .slice a4 len c4] (by rfl) (by rfl) 24 _ hr10 dev_info rfl (by simp [Value.oneCell']) ⟨(row4 hv11).2, (row3 hq11).2⟩ ?_
  simp only [Act.put]
  repeat (first | (refine Plan.take ?_ (by rfl) ?_ ?_; rotate_left; (· rintro w9 ⟨⟨e0, e1, e2, e3⟩, z0, z1, z2⟩; go_simp; (try rw [if_neg (by omega)]); all_goals (with_reducible rfl)); simp only [Act.put, List.setIfInBounds_toArray, List.set_cons_zero, List.set_cons_succ]) | (refine Plan.pass (by rfl) ?_; simp only [Act.put, List.setIfInBounds_toArray, List.set_cons_zero, List.set_cons_succ]))
  refine Plan.ends ?_
  go_wp2_with fail
  have hz11 := hz10.on (Agree.row (by
    rintro (h | h)
    · exact plus_not hF (by omega) (by omega) h
    · have h : w9.heap.size ≤ w.heap.size + 1 := h
      omega : ¬ Plus (Plus F n1) w9.drew.heap.size (w.heap.size + 1)) #[.int .i64 s2, .int .i64 o2, .int .i64 t2, .slice a4 len c4])
  refine bodyPost_ret (results_cell_tmp2 (p := 6) (q := 7) (r := 8) rfl _ _ _ _ _ _ _ rfl (setRow_heap _ _ _ _ _ _ hr10) Try.underlying24 rfl dev_info) rfl ⟨a4, c4, ?_, hz11.mono ?_, b11⟩
  · have hwr : IntKind.i64.wrap (sl : Int) = (sl : Int) := by rw [IntKind.wrap_i64]; omega
    simp [hwr, withZ]
  have m10 := b9.size
  rintro b - ((h | h) | h)
  · exact .inl h
  · exact .inr (by omega)
  · exact .inr (Nat.le_trans m10 h)
set_option maxHeartbeats 2000000 in
set_option maxRecDepth 20000 in
theorem refAppend_room_full (F : Nat → Prop) (D : Dev) (a : Option Addr) (len cap i : Nat) (s : ByteArray) (w : World) (hF : ∀ b, F b → b < w.heap.size) (hz : ZonesIn w F a len cap D.zones) (hm : len ≤ 1000000) (hi : i < len) (hc : checkE D = 0) (hs : s.size = 40) (h5 : stateAt D (i : Int) ≠ 5) (h4 : stateAt D (i : Int) ≠ 4) (ho : openB (stateAt D (i : Int)) = false) (hE : roomE D i = 0) (hfull : ((D.zones.getD i empty).sectors.length : Int) + 1 = D.size) :
    Calls Try.prog 25 #[devV D a len cap, .int .i64 (i : Int), .string s] w (AppPost w F len (withZ (roomR D i) i ⟨4, D.size, (D.zones.getD i empty).sectors ++ [s]⟩) ((D.zones.getD i empty).sectors.length : Int) 0) := by
  have hck := fun W (h : Below w.heap.size w W) => refCheck05_any D a len cap W (hz.on (Agree.below h)).is
  have hiI : (i : Int) < (len : Int) := by omega
  obtain ⟨x, z, sa, sl, sc, rfl, hzk, hza, hzs⟩ := hz.zone i hi
  have hxb := zone_block hza
  have hsl := hzs.1.length
  have hslm : sl ≤ 1000000 := zone_small hc hzk hsl
  have hsm : ∀ t ∈ z.sectors ++ [s], t.size ≤ maxLen := by
    intro t ht
    rcases List.mem_append.1 ht with h | h
    · exact strs_small hzs.1 t h
    · obtain rfl : t = s := by simpa using h
      unfold maxLen; omega
  have hs1 : ((s.size : Int) != 40) = false := by simp; omega
  rw [hc] at hck
  rw [getD_of hzk, hsl]
  rw [stateAt_of hzk] at ho h5 h4
  have e5 : (z.state == 5) = false := by simp [h5]
  have e4 : (z.state == 4) = false := by simp [h4]
  have hop := fun W => refOpened_any z.state W
  have hzr := ready_at hzk
  rw [show ready D (i : Int) = roomR D i by unfold ready; rw [stateAt_of hzk, if_neg (by rw [ho]; decide), Int.toNat_natCast]] at hzr
  have hrm : ∀ W, Below w.heap.size w W → Calls Try.prog 53 #[devV D (some x) len cap, .int .i64 (i : Int)] W fun e w' => ∃ a' cap', e = .returned (.tuple #[devV (roomR D i) a' len cap', .int .i64 0]) ∧ ZonesIn w' (Plus F W.heap.size) a' len cap' (roomR D i).zones ∧ Below W.heap.size W w' := fun W h => by
    have := refRoom_any F D (some x) len cap i W (fun b hb => Nat.lt_of_lt_of_le (hF b hb) h.size) (hz.on (Agree.below h)) hm hi
    rw [hE] at this
    exact this
  rw [ho] at hop
  have hA : Below w.heap.size w ((w.alloc (devRow D.size D.maxOpen D.maxActive (some x) len cap)).alloc (devRow 0 0 0 none 0 0)) := ((Below.refl _ _).alloc (Nat.le_refl _) _).alloc (by simp) _
  rw [getD_of hzk, hsl] at hfull
  have hfe : (((sl : Int) + 1) == D.size) = true := by simp [hfull]
  unfold AppPost
  generalize roomR D i = D2 at *
  have HK := Lib.hid hck
  have HO := Lib.hid hop
  have HA := Lib.hid hA
  have HZ := Lib.hid hza
  have HM := Lib.hid hrm
  clear hck hop hA hza h5 h4 hs ho hc hfull hrm hE
  obtain ⟨size, op, act, Z⟩ := D
  obtain ⟨st, du, L⟩ := z
  obtain ⟨s2, o2, t2, Z2⟩ := D2
  try simp only at hsm hsl hzr
  go_enter Try.func25, Try.ntmps25
  go_wp2_with (first
    | (go_at_call 36; ((with_reducible refine (HK.out _ HA.out).mono ?_); rintro e w1 ⟨rfl, hb1⟩; have hx1 := row_on hb1 (heap_first2 w _ _) (by simp only [World.size_alloc]; omega); have hr1 := row_on hb1 (heap_second w _ _) (by simp only [World.size_alloc]; omega); obtain ⟨y1, d0, d1, d2, d3⟩ := row4 hx1; have b1 := HA.out.trans (hb1.mono (by simp only [World.size_alloc]; omega)); obtain ⟨zc0, zc1, zc2⟩ := HZ.out.on b1 hxb; have b3 := b1.alloc b1.size (devRow size op act (some x) len cap); obtain ⟨zd0, zd1, zd2⟩ := HZ.out.on b3 hxb; have hx3 := row_al hx1 (devRow size op act (some x) len cap); have hr3 := row_al hr1 (devRow size op act (some x) len cap); have hv3 := heap_alloc_new w1 (devRow size op act (some x) len cap); obtain ⟨y3, p0, p1, p2, p3⟩ := row4 hx3; obtain ⟨v3, l0, l1, l2, l3⟩ := row4 hv3; have n2 := lt_of_block hr1))
    | (go_at_call 52; ((with_reducible refine (HO.out _).mono ?_); rintro e wo ⟨rfl, rfl⟩))
    | (go_at_call 53; ((with_reducible refine (HM.out _ b3).mono ?_); rintro e w2 ⟨a2, c2, rfl, hz2, hb2⟩; have hx2 := row_al (row_on hb2 hx3 (lt_of_block hx3)) (devRow s2 o2 t2 a2 len c2); have hr2 := row_al (row_on hb2 hr3 (lt_of_block hr3)) (devRow s2 o2 t2 a2 len c2); have hv2 := row_al (row_on hb2 hv3 (lt_of_block hv3)) (devRow s2 o2 t2 a2 len c2); have hy2 := heap_alloc_new w2 (devRow s2 o2 t2 a2 len c2); obtain ⟨y2, d0, d1, d2, d3⟩ := row4 hx2; obtain ⟨yy2, k0, k1, k2, k3⟩ := row4 hy2; have b2 := b3.trans (hb2.mono b3.size); have b2' := b2.alloc b2.size (devRow s2 o2 t2 a2 len c2)))
    | ((with_reducible refine Plan.store_lit 24 (.tmp 10) _ w1.heap.size ?_ hv2 ?_ ?_ ?_ ?_ ?_ ?_); rotate_left; (· rfl); (· rfl); (· exact dev_info); (· rfl); (· simp [Value.oneCell']); simp only [Act.put]; have hv3 := setRow_heap _ _ _ #[.int .i64 s2, .int .i64 o2, .int .i64 t2, .slice a2 len c2] _ _ hv2; have hx3 := (setRow_other _ w1.heap.size w.heap.size #[.int .i64 s2, .int .i64 o2, .int .i64 t2, .slice a2 len c2] (by omega)).trans hx2; have hr3 := (setRow_other _ w1.heap.size (w.heap.size + 1) #[.int .i64 s2, .int .i64 o2, .int .i64 t2, .slice a2 len c2] (by omega)).trans hr2; have b3 := below_setRow b2' (show w.heap.size ≤ w1.heap.size from b1.size) #[.int .i64 s2, .int .i64 o2, .int .i64 t2, .slice a2 len c2]; have hz3 := (hz2.on (Agree.below ((Below.refl _ _).alloc (Nat.le_refl _) (devRow s2 o2 t2 a2 len c2)))).on (Agree.row (plus_not hF b1.size (by simp only [World.size_alloc]; omega) : ¬ Plus F (w1.alloc (devRow size op act (some x) len cap)).heap.size w1.heap.size) #[.int .i64 s2, .int .i64 o2, .int .i64 t2, .slice a2 len c2]); generalize (w2.alloc (devRow s2 o2 t2 a2 len c2)).setRow w1.heap.size #[.int .i64 s2, .int .i64 o2, .int .i64 t2, .slice a2 len c2] = w3 at hv3 hx3 hr3 b3 hz3 ⊢; obtain ⟨v3, m0, m1, m2, m3⟩ := row4 hv3; obtain ⟨y3, p0, p1, p2, p3⟩ := row4 hx3; obtain ⟨x3, z3, ta, tl, tc, hx3e, hz3k, ⟨q0, q1, q2⟩, hs3⟩ := hz3.zone i hi; subst hx3e; obtain rfl := Option.some.inj (hzr.symm.trans hz3k); have htl := hs3.1.length; obtain rfl : sl = tl := hsl.symm.trans htl; have nn3 := lt_of_block hv3)
    | (at_builtin; have E0 := strs_empty (w3.alloc (zoneRow 1 du ta sl tc)) (H := w3.heap.size + 1) (by simp only [World.size_alloc]); have c4 := ((Below.refl (w3).heap.size (w3)).alloc (Nat.le_refl _) (zoneRow 1 du ta sl tc)).alloc (by (try simp only [World.size_alloc]); omega) (.cells #[] 9); refine append_list rfl _ _ rfl (w3.heap.size + 1) (.slice (some ⟨w3.heap.size + 1, 0, none⟩) 0 0) rfl E0 ta sl tc L rfl (hs3.1.on c4 (Nat.le_refl _)) hslm (by (try simp only [World.size_alloc]); omega) ?_; intro v5 w5 hown5 hgrow5; have hx5 := row_grow E0 hgrow5 (row_al (row_al hx3 (zoneRow 1 du ta sl tc)) (.cells #[] 9)) (by omega); have hr5 := row_grow E0 hgrow5 (row_al (row_al hr3 (zoneRow 1 du ta sl tc)) (.cells #[] 9)) (by omega); have hv5 := row_grow E0 hgrow5 (row_al (row_al hv3 (zoneRow 1 du ta sl tc)) (.cells #[] 9)) (by omega); have hq3 : (w3.alloc (zoneRow 1 du ta sl tc)).heap[w3.heap.size]? = some (zoneRow 1 du ta sl tc) := (by first | (have := heap_alloc_new (w3) (zoneRow 1 du ta sl tc); rwa [World.size_alloc] at this) | exact heap_alloc_new _ _); have hq5 := row_grow E0 hgrow5 (row_al hq3 (.cells #[] 9)) (by omega); have c5 := below_grow c4 E0 (by (try simp only [World.size_alloc]); omega) (by (try simp only [World.size_alloc]); omega) hgrow5; have own6 := Lib.hid (owns_on hown5 ((Below.refl _ _).alloc (Nat.le_refl _) (.cells #[.string s] 9))); clear E0 hown5 hgrow5)
    | (at_builtin; have m5 := c5.size; refine append_one rfl _ _ rfl (w3.heap.size + 1) v5 sl L rfl own6.out w5.heap.size s rfl (cell_of_row _ _ 0 _ _ _ (heap_alloc_new w5 _)) hslm (by have := lt_of_block hq5; (try simp only [World.size_alloc] at *); omega) ?_; intro v7 w7 hown7 hgrow7; obtain ⟨g7, c7v, rfl, hg7, hl7⟩ := owned_some hown7 (by omega); have hx7 := row_grow own6.out hgrow7 (row_al hx5 (.cells #[.string s] 9)) (by omega); have hr7 := row_grow own6.out hgrow7 (row_al hr5 (.cells #[.string s] 9)) (by omega); have hv7 := row_grow own6.out hgrow7 (row_al hv5 (.cells #[.string s] 9)) (by omega); have hq7 := row_grow own6.out hgrow7 (row_al hq5 (.cells #[.string s] 9)) (by omega); have c7 := below_grow (c5.alloc c5.size (.cells #[.string s] 9)) own6.out (by (try simp only [World.size_alloc]); omega) (by have := c5.size; (try simp only [World.size_alloc] at *); omega) hgrow7; have S7 := Lib.hid (strsIn_own (F := fun b => b = g7) hown7 hsm rfl); obtain ⟨y7, d0, d1, d2, d3⟩ := row4 hx7; obtain ⟨yq7, q0, q1, q2⟩ := row3 hq7; have f7 := row_free hq7 2; clear hown7 hgrow7))
  obtain ⟨n1, hn1⟩ : ∃ n1, n1 = w1.heap.size + 1 := ⟨_, rfl⟩
  have n0 : w.heap.size + 1 < w1.heap.size := n2
  have hx9 := (Below.heap_setCell w7 ⟨w3.heap.size, 2, none⟩ (.slice (some ⟨g7, 0, none⟩) (sl + 1) c7v) w.heap.size (by show w.heap.size ≠ w3.heap.size; omega)).trans hx7
  have hr9 := (Below.heap_setCell w7 ⟨w3.heap.size, 2, none⟩ (.slice (some ⟨g7, 0, none⟩) (sl + 1) c7v) (w.heap.size + 1) (by show w.heap.size + 1 ≠ w3.heap.size; omega)).trans hr7
  have hv9 := (Below.heap_setCell w7 ⟨w3.heap.size, 2, none⟩ (.slice (some ⟨g7, 0, none⟩) (sl + 1) c7v) (w1.heap.size) (by show w1.heap.size ≠ w3.heap.size; omega)).trans hv7
  have hq9 : (w7.setCell ⟨w3.heap.size, 2, none⟩ (.slice (some ⟨g7, 0, none⟩) (sl + 1) c7v)).heap[w3.heap.size]? = some (zoneRow 1 du (some ⟨g7, 0, none⟩) (sl + 1) c7v) := setCell_row hq7 2 (.slice (some ⟨g7, 0, none⟩) (sl + 1) c7v)
  have c9 := c7.setCell (show (w3).heap.size ≤ (⟨w3.heap.size, 2, none⟩ : Addr).block by show (w3).heap.size ≤ w3.heap.size; (try simp only [World.size_alloc]); omega) (.slice (some ⟨g7, 0, none⟩) (sl + 1) c7v)
  have S9 := S7.out.on (Agree.setCell (F := fun b => b = g7) (p := ⟨w3.heap.size, 2, none⟩) (show ¬ w3.heap.size = g7 by omega) (.slice (some ⟨g7, 0, none⟩) (sl + 1) c7v))
  generalize w7.setCell ⟨w3.heap.size, 2, none⟩ (.slice (some ⟨g7, 0, none⟩) (sl + 1) c7v) = w9 at hx9 hr9 hv9 hq9 c9 S9 ⊢
  clear S7 hx7 hr7 hv7 hq7 q0 q1 q2 f7 d0 d1 d2 d3
  have hz3 : ZonesIn w3 (Plus F n1) (some x3) len c2 Z2 := hz3.mono (fun b _ h => h.imp id (fun h => by simp only [World.size_alloc] at h; omega))

  refine Plan.start (fun W => DevAt W w.heap.size size op act (some x) len cap) [(0, true), (1, true), (2, true), (3, false), (4, true), (5, false)] (by kernel_rfl) (by kernel_rfl) (by kernel_rfl) (by kernel_rfl) (row4 hx9).2 ?_
  simp only [List.map_cons, List.map_nil, List.getElem?_toArray, List.getElem?_cons_zero, List.getElem?_cons_succ]
  repeat (first | (refine Plan.take ?_ (by rfl) ?_ ?_; rotate_left; (· rintro w9 ⟨e0, e1, e2, e3⟩; go_simp; (try rw [if_neg (by omega)]); all_goals (with_reducible rfl)); simp only [Act.put, List.setIfInBounds_toArray, List.set_cons_zero, List.set_cons_succ]) | (refine Plan.pass (by rfl) ?_; simp only [Act.put, List.setIfInBounds_toArray, List.set_cons_zero, List.set_cons_succ]))
  have k0 : w9.drew.cell? ⟨w3.heap.size, 0, none⟩ = some (.int .i64 1) := (row3 hq9).2.1
  have f0 : w9.drew.frozen? ⟨w3.heap.size, 0, none⟩ = false := row_free hq9 0
  have hx10 : (w9.drew.setCell ⟨w3.heap.size, 0, none⟩ (.int .i64 4)).heap[w.heap.size]? = _ := (Below.heap_setCell w9.drew ⟨w3.heap.size, 0, none⟩ (.int .i64 4) w.heap.size (by show w.heap.size ≠ w3.heap.size; omega)).trans hx9
  have hr10 : (w9.drew.setCell ⟨w3.heap.size, 0, none⟩ (.int .i64 4)).heap[w.heap.size + 1]? = _ := (Below.heap_setCell w9.drew ⟨w3.heap.size, 0, none⟩ (.int .i64 4) (w.heap.size + 1) (by show w.heap.size + 1 ≠ w3.heap.size; omega)).trans hr9
  have hv10 : (w9.drew.setCell ⟨w3.heap.size, 0, none⟩ (.int .i64 4)).heap[w1.heap.size]? = _ := (Below.heap_setCell w9.drew ⟨w3.heap.size, 0, none⟩ (.int .i64 4) (w1.heap.size) (by show w1.heap.size ≠ w3.heap.size; omega)).trans hv9
  have hq10 : (w9.drew.setCell ⟨w3.heap.size, 0, none⟩ (.int .i64 4)).heap[w3.heap.size]? = some (zoneRow 4 du (some ⟨g7, 0, none⟩) (sl + 1) c7v) := setCell_row (w := w9.drew) hq9 0 (.int .i64 4)
  have c10 := c9.drew.setCell (show (w3).heap.size ≤ (⟨w3.heap.size, 0, none⟩ : Addr).block by show (w3).heap.size ≤ w3.heap.size; (try simp only [World.size_alloc]); omega) (.int .i64 4)
  have S10 := (S9.on (Agree.below (Below.refl _ _).drew)).on (Agree.setCell (F := fun b => b = g7) (p := ⟨w3.heap.size, 0, none⟩) (show ¬ w3.heap.size = g7 by omega) (.int .i64 4))
  refine Plan.carry (by rfl) (wp_store_int 3 _ _ rfl (w3.heap.size) 0 .i64 4 (by rfl) (by rfl) ⟨_, k0⟩ f0 int_info1 ⟨(row4 hx10).2, ?_⟩)
  clear k0 f0
  generalize w9.drew.setCell ⟨w3.heap.size, 0, none⟩ (.int .i64 4) = w10 at hx10 hr10 hv10 hq10 c10 S10 ⊢
  simp only [Act.put]
  repeat (first | (refine Plan.take ?_ (by rfl) ?_ ?_; rotate_left; (· rintro w9 ⟨e0, e1, e2, e3⟩; go_simp; (try rw [if_neg (by omega)]); all_goals (with_reducible rfl)); simp only [Act.put, List.setIfInBounds_toArray, List.set_cons_zero, List.set_cons_succ]) | (refine Plan.pass (by rfl) ?_; simp only [Act.put, List.setIfInBounds_toArray, List.set_cons_zero, List.set_cons_succ]))
  have k0 : w10.cell? ⟨w3.heap.size, 1, none⟩ = some (.int .i64 du) := (row3 hq10).2.2.1
  have f0 : w10.frozen? ⟨w3.heap.size, 1, none⟩ = false := row_free hq10 1
  have hx11 := (Below.heap_setCell w10 ⟨w3.heap.size, 1, none⟩ (.int .i64 size) w.heap.size (by show w.heap.size ≠ w3.heap.size; omega)).trans hx10
  have hr11 := (Below.heap_setCell w10 ⟨w3.heap.size, 1, none⟩ (.int .i64 size) (w.heap.size + 1) (by show w.heap.size + 1 ≠ w3.heap.size; omega)).trans hr10
  have hv11 := (Below.heap_setCell w10 ⟨w3.heap.size, 1, none⟩ (.int .i64 size) (w1.heap.size) (by show w1.heap.size ≠ w3.heap.size; omega)).trans hv10
  have hq11 : (w10.setCell ⟨w3.heap.size, 1, none⟩ (.int .i64 size)).heap[w3.heap.size]? = some (zoneRow 4 size (some ⟨g7, 0, none⟩) (sl + 1) c7v) := setCell_row hq10 1 (.int .i64 size)
  have c11 := c10.setCell (show (w3).heap.size ≤ (⟨w3.heap.size, 1, none⟩ : Addr).block by show (w3).heap.size ≤ w3.heap.size; (try simp only [World.size_alloc]); omega) (.int .i64 size)
  have S11 := S10.on (Agree.setCell (F := fun b => b = g7) (p := ⟨w3.heap.size, 1, none⟩) (show ¬ w3.heap.size = g7 by omega) (.int .i64 size))
  refine Plan.carry (by rfl) (wp_store_int 3 _ _ rfl (w3.heap.size) 1 .i64 size (by rfl) (by rfl) ⟨_, k0⟩ f0 int_info1 ⟨(row4 hx11).2, ?_⟩)
  clear k0 f0
  generalize w10.setCell ⟨w3.heap.size, 1, none⟩ (.int .i64 size) = w11 at hx11 hr11 hv11 hq11 c11 S11 ⊢
  simp only [Act.put]
  refine Plan.ends ?_
  clear hx9 hr9 hv9 hq9 c9 S9 hx10 hr10 hv10 hq10 c10 S10
  obtain ⟨w9, rfl⟩ : ∃ w9, w9 = w11 := ⟨_, rfl⟩
  have hx9 := hx11
  have hr9 := hr11
  have hv9 := hv11
  have hq9 := hq11
  have c9 := c11
  have S9 := S11
  clear hx11 hr11 hv11 hq11 c11 S11
  go_wp2_with fail
  refine Plan.start (fun W => DevAt W (w1.heap.size) s2 o2 t2 (some x3) len c2 ∧ W.cell? ⟨w3.heap.size, 0, none⟩ = some (.int .i64 4) ∧ W.cell? ⟨w3.heap.size, 1, none⟩ = some (.int .i64 size) ∧ W.cell? ⟨w3.heap.size, 2, none⟩ = some (.slice (some ⟨g7, 0, none⟩) (sl + 1) c7v)) [(0, true), (1, true), (2, true), (4, true), (5, true), (6, true), (7, true), (3, false), (8, false), (9, true), (10, true)] (by kernel_rfl) (by kernel_rfl) (by kernel_rfl) (by kernel_rfl) ⟨(row4 hv9).2, (row3 hq9).2⟩ ?_
  simp only [List.map_cons, List.map_nil, List.getElem?_toArray, List.getElem?_cons_zero, List.getElem?_cons_succ]
  repeat (first | (refine Plan.take ?_ (by rfl) ?_ ?_; rotate_left; (· rintro w9 ⟨⟨e0, e1, e2, e3⟩, z0, z1, z2⟩; go_simp; (try rw [if_neg (by omega)]); all_goals (with_reducible rfl)); simp only [Act.put, List.setIfInBounds_toArray, List.set_cons_zero, List.set_cons_succ]) | (refine Plan.pass (by rfl) ?_; simp only [Act.put, List.setIfInBounds_toArray, List.set_cons_zero, List.set_cons_succ]))
  have b9 := b3.trans (c9.mono b3.size)
  have hz9 := hz3.on (Agree.below c9.drew)
  have m9 := c9.size
  have hs9 : StrsIn w9.drew (Plus F n1) (some ⟨g7, 0, none⟩) (sl + 1) c7v (L ++ [s]) := StrsIn.mono (F := fun b => b = g7) (S9.on (Agree.below (Below.refl _ _).drew)) (fun b _ hb => .inr (by (try simp only [World.size_alloc] at *); omega))
  refine Plan.call (by rfl) 54 _ ?_ (with_agg (Plus F n1) ⟨s2, o2, t2, Z2⟩ (some x3) len c2 i 4 size (L ++ [s]) (some ⟨g7, 0, none⟩) (sl + 1) c7v w9.drew hz9 hi hm hs9) ?_
  · go_simp
  rintro e w10 ⟨a4, c4, rfl, hz10, hb10⟩
  have hb10 := (Below.refl w9.heap.size w9).drew.trans hb10
  have hr10 := row_on hb10 hr9 (lt_of_block hr9)
  have hv10 := row_on hb10 hv9 (lt_of_block hv9)
  have hq10 := row_on hb10 hq9 (lt_of_block hq9)
  have b10 := b9.trans (hb10.mono b9.size)
  refine ⟨_, rfl, ⟨(row4 hv10).2, (row3 hq10).2⟩, ?_⟩
  simp only [Act.put, List.setIfInBounds_toArray, List.set_cons_zero, List.set_cons_succ]
  have b11 := below_setRow b10 (show w.heap.size ≤ w.heap.size + 1 by omega) #[.int .i64 s2, .int .i64 o2, .int .i64 t2, .slice a4 len c4]
  have hv11 := (setRow_other w10 (w.heap.size + 1) (w1.heap.size) #[.int .i64 s2, .int .i64 o2, .int .i64 t2, .slice a4 len c4] (by omega)).trans hv10
  have hq11 := (setRow_other w10 (w.heap.size + 1) (w3.heap.size) #[.int .i64 s2, .int .i64 o2, .int .i64 t2, .slice a4 len c4] (by omega)).trans hq10
  have hlt9 := lt_of_block hr9
  refine Plan.store (by rfl) 24 _ _ rfl (w.heap.size + 1) #[.int .i64 s2, .int .i64 o2, .int .i64 t2, .slice a4 len c4] (by rfl) (by rfl) 24 _ hr10 dev_info rfl (by simp [Value.oneCell']) ⟨(row4 hv11).2, (row3 hq11).2⟩ ?_
  simp only [Act.put]
  repeat (first | (refine Plan.take ?_ (by rfl) ?_ ?_; rotate_left; (· rintro w9 ⟨⟨e0, e1, e2, e3⟩, z0, z1, z2⟩; go_simp; (try rw [if_neg (by omega)]); all_goals (with_reducible rfl)); simp only [Act.put, List.setIfInBounds_toArray, List.set_cons_zero, List.set_cons_succ]) | (refine Plan.pass (by rfl) ?_; simp only [Act.put, List.setIfInBounds_toArray, List.set_cons_zero, List.set_cons_succ]))
  refine Plan.ends ?_
  go_wp2_with fail
  have hz11 := hz10.on (Agree.row (by
    rintro (h | h)
    · exact plus_not hF (by omega) (by omega) h
    · have h : w9.heap.size ≤ w.heap.size + 1 := h
      omega : ¬ Plus (Plus F n1) w9.drew.heap.size (w.heap.size + 1)) #[.int .i64 s2, .int .i64 o2, .int .i64 t2, .slice a4 len c4])
  refine bodyPost_ret (results_cell_tmp2 (p := 6) (q := 7) (r := 8) rfl _ _ _ _ _ _ _ rfl (setRow_heap _ _ _ _ _ _ hr10) Try.underlying24 rfl dev_info) rfl ⟨a4, c4, ?_, hz11.mono ?_, b11⟩
  · have hwr : IntKind.i64.wrap (sl : Int) = (sl : Int) := by rw [IntKind.wrap_i64]; omega
    simp [hwr, withZ]
  have m10 := b9.size
  rintro b - ((h | h) | h)
  · exact .inl h
  · exact .inr (by omega)
  · exact .inr (Nat.le_trans m10 h)
end Go.Proofs.Ytlmlmgegnnikeaa

/- The document's own Append, whole. -/
namespace Go.Proofs.Ytlmlmgegnnikeaa
open Go.RowKit Plan ZnsMath

set_option maxHeartbeats 2000000 in
set_option maxRecDepth 20000 in
theorem refAppend_none (F : Nat → Prop) (D : Dev) (a : Option Addr) (len cap i : Nat) (s : ByteArray) (w : World) (hF : ∀ b, F b → b < w.heap.size) (hz : ZonesIn w F a len cap D.zones) (hm : len ≤ 1000000) (hi : i < len) (hc : checkE D = 0) (hs : s.size = 40) (h5 : stateAt D (i : Int) ≠ 5) (h4 : stateAt D (i : Int) ≠ 4) (ho : openB (stateAt D (i : Int)) = false) (hE : roomE D i ≠ 0) :
    Calls Try.prog 25 #[devV D a len cap, .int .i64 (i : Int), .string s] w (AppPost w F len D 0 (roomE D i)) := by
  have hck := fun W (h : Below w.heap.size w W) => refCheck05_any D a len cap W (hz.on (Agree.below h)).is
  have hiI : (i : Int) < (len : Int) := by omega
  obtain ⟨x, z, sa, sl, sc, rfl, hzk, hza, hzs⟩ := hz.zone i hi
  have hxb := zone_block hza
  have hsl := hzs.1.length
  have hslm : sl ≤ 1000000 := zone_small hc hzk hsl
  have hsm : ∀ t ∈ z.sectors ++ [s], t.size ≤ maxLen := by
    intro t ht
    rcases List.mem_append.1 ht with h | h
    · exact strs_small hzs.1 t h
    · obtain rfl : t = s := by simpa using h
      unfold maxLen; omega
  have hs1 : ((s.size : Int) != 40) = false := by simp; omega
  rw [hc] at hck
  rw [stateAt_of hzk] at ho h5 h4
  have e5 : (z.state == 5) = false := by simp [h5]
  have e4 : (z.state == 4) = false := by simp [h4]
  have hop := fun W => refOpened_any z.state W
  have hrm := fun W (h : Below w.heap.size w W) => refRoom_any F D (some x) len cap i W (fun b hb => Nat.lt_of_lt_of_le (hF b hb) h.size) (hz.on (Agree.below h)) hm hi
  unfold DevPost at hrm
  rw [ho] at hop
  have hA : Below w.heap.size w ((w.alloc (devRow D.size D.maxOpen D.maxActive (some x) len cap)).alloc (devRow 0 0 0 none 0 0)) := ((Below.refl _ _).alloc (Nat.le_refl _) _).alloc (by simp) _
  unfold AppPost
  generalize roomR D i = D2 at *
  generalize roomE D i = E at *
  have hE1 : (E != 0) = true := by simp [hE]
  have HK := Lib.hid hck
  have HO := Lib.hid hop
  have HA := Lib.hid hA
  have HZ := Lib.hid hza
  have HM := Lib.hid hrm
  clear hck hop hA hza h5 h4 hs ho hc hrm hE hsm
  obtain ⟨size, op, act, Z⟩ := D
  obtain ⟨st, du, L⟩ := z
  obtain ⟨s2, o2, t2, Z2⟩ := D2
  go_enter Try.func25, Try.ntmps25
  go_wp2_with (first
    | (go_at_call 36; ((with_reducible refine (HK.out _ HA.out).mono ?_); rintro e w1 ⟨rfl, hb1⟩; have hx1 := row_on hb1 (heap_first2 w _ _) (by simp only [World.size_alloc]; omega); have hr1 := row_on hb1 (heap_second w _ _) (by simp only [World.size_alloc]; omega); obtain ⟨y1, d0, d1, d2, d3⟩ := row4 hx1; have b1 := HA.out.trans (hb1.mono (by simp only [World.size_alloc]; omega)); obtain ⟨zc0, zc1, zc2⟩ := HZ.out.on b1 hxb; have b3 := b1.alloc b1.size (devRow size op act (some x) len cap); obtain ⟨zd0, zd1, zd2⟩ := HZ.out.on b3 hxb; have hx3 := row_al hx1 (devRow size op act (some x) len cap); have hr3 := row_al hr1 (devRow size op act (some x) len cap); have hv3 := heap_alloc_new w1 (devRow size op act (some x) len cap); obtain ⟨y3, p0, p1, p2, p3⟩ := row4 hx3; obtain ⟨v3, l0, l1, l2, l3⟩ := row4 hv3; have n2 := lt_of_block hr1))
    | (go_at_call 52; ((with_reducible refine (HO.out _).mono ?_); rintro e wo ⟨rfl, rfl⟩))
    | (go_at_call 53; ((with_reducible refine (HM.out _ b3).mono ?_); rintro e w2 ⟨a2, c2, rfl, hz2, hb2⟩; have hx2 := row_al (row_on hb2 hx3 (lt_of_block hx3)) (devRow s2 o2 t2 a2 len c2); have hr2 := row_al (row_on hb2 hr3 (lt_of_block hr3)) (devRow s2 o2 t2 a2 len c2); have hv2 := row_al (row_on hb2 hv3 (lt_of_block hv3)) (devRow s2 o2 t2 a2 len c2); have hy2 := heap_alloc_new w2 (devRow s2 o2 t2 a2 len c2); obtain ⟨y2, d0, d1, d2, d3⟩ := row4 hx2; obtain ⟨yy2, k0, k1, k2, k3⟩ := row4 hy2; have b2 := b3.trans (hb2.mono b3.size); have b2' := b2.alloc b2.size (devRow s2 o2 t2 a2 len c2)))
    | ((with_reducible refine Plan.store_lit 24 (.tmp 6) _ (w.heap.size + 1) ?_ hr2 ?_ ?_ ?_ ?_ ?_ ?_); rotate_left; (· rfl); (· rfl); (· exact dev_info); (· rfl); (· simp [Value.oneCell']); simp only [Act.put]))
  have b4 := below_setRow b2' (show w.heap.size ≤ w.heap.size + 1 by omega) #[.int .i64 size, .int .i64 op, .int .i64 act, .slice (some x) len cap]
  refine bodyPost_ret (results_cell_tmp2 (p := 6) (q := 7) (r := 8) rfl _ _ _ _ _ _ _ rfl (setRow_heap _ _ _ _ _ _ hr2) Try.underlying24 rfl dev_info) rfl ⟨some x, cap, rfl, (hz.on (Agree.below b4)).mono (fun b _ hb => .inl hb), b4⟩
theorem refAppend_any (F : Nat → Prop) (D : Dev) (a : Option Addr) (len cap : Nat) (k : Int) (s : ByteArray) (w : World) (hF : ∀ b, F b → b < w.heap.size) (hz : ZonesIn w F a len cap D.zones) (hm : len ≤ 1000000) :
    Calls Try.prog 25 #[devV D a len cap, .int .i64 k, .string s] w (AppPost w F len (appendR D k s) (appendO D k s) (appendE D k s)) := by
  by_cases hE : zoneE D k = 0
  · obtain ⟨hc, h1, h2⟩ := zoneE_of hE
    obtain ⟨i, rfl⟩ : ∃ i : Nat, k = (i : Int) := ⟨k.toNat, by omega⟩
    have hi : i < len := by rw [hz.is.length] at h2; omega
    have bad : ∀ E : Int, E ≠ 0 → appendE D (i : Int) s = E → appendR D (i : Int) s = D ∧ appendO D (i : Int) s = 0 := fun E h0 h => by
      constructor
      · unfold appendR; rw [h, if_neg h0]
      · unfold appendO; rw [h, if_neg h0]
    by_cases hs : s.size = 40
    · by_cases h5 : stateAt D (i : Int) = 5
      · have he : appendE D (i : Int) s = 6 := by simp [appendE, hE, hs, h5]
        obtain ⟨hr, ho⟩ := bad 6 (by decide) he
        rw [he, hr, ho]
        exact refAppend_state F D a len cap i s 6 w hz hc hi (.inr (.inl ⟨hs, h5, rfl⟩))
      · by_cases h4 : stateAt D (i : Int) = 4
        · have he : appendE D (i : Int) s = 7 := by simp [appendE, hE, hs, h4]
          obtain ⟨hr, ho⟩ := bad 7 (by decide) he
          rw [he, hr, ho]
          exact refAppend_state F D a len cap i s 7 w hz hc hi (.inr (.inr ⟨hs, h4, rfl⟩))
        · obtain ⟨x, z, sa, sl, sc, -, hzk, -, -⟩ := hz.zone i hi
          cases hopen : openB (stateAt D (i : Int)) with
          | true =>
            have he : appendE D (i : Int) s = 0 := by simp [appendE, hE, hs, h5, h4, hopen]
            have hrd : ready D (i : Int) = D := by unfold ready; rw [if_pos hopen]
            have ho : appendO D (i : Int) s = ((D.zones.getD i empty).sectors.length : Int) := by
              unfold appendO
              rw [if_pos he, hrd, Int.toNat_natCast]
            have hr : appendR D (i : Int) s = withZ D i (appended (D.zones.getD i empty) s D.size) := by
              unfold appendR
              rw [if_pos he, hrd, Int.toNat_natCast]
            rw [he, ho, hr]
            by_cases hf : ((D.zones.getD i empty).sectors.length : Int) + 1 = D.size
            · rw [show appended (D.zones.getD i empty) s D.size = ⟨4, D.size, (D.zones.getD i empty).sectors ++ [s]⟩ by unfold appended; rw [if_pos hf]]
              exact refAppend_open_full F D a len cap i s w hF hz hm hi hc hs h5 h4 hopen hf
            · rw [show appended (D.zones.getD i empty) s D.size = ⟨(D.zones.getD i empty).state, (D.zones.getD i empty).durable, (D.zones.getD i empty).sectors ++ [s]⟩ by
                unfold appended
                rw [if_neg hf, if_pos (by rw [getD_of hzk, ← stateAt_of hzk]; exact hopen)]]
              exact refAppend_open_more F D a len cap i s w hF hz hm hi hc hs h5 h4 hopen hf
          | false =>
            have hee : appendE D (i : Int) s = roomE D i := by simp [appendE, hE, hs, h5, h4, hopen]
            by_cases hn : roomE D i = 0
            · have he : appendE D (i : Int) s = 0 := by rw [hee, hn]
              have hrd : ready D (i : Int) = roomR D i := by unfold ready; rw [hopen, if_neg (by decide), Int.toNat_natCast]
              have hat : (ready D (i : Int)).zones.getD i empty = D.zones.getD i empty := by rw [getD_of (ready_at hzk), getD_of hzk]
              have ho : appendO D (i : Int) s = ((D.zones.getD i empty).sectors.length : Int) := by
                unfold appendO
                rw [if_pos he, Int.toNat_natCast, hat]
              have hr : appendR D (i : Int) s = withZ (roomR D i) i (appended (D.zones.getD i empty) s D.size) := by
                unfold appendR
                rw [if_pos he, Int.toNat_natCast, hat, hrd]
              rw [he, ho, hr]
              by_cases hf : ((D.zones.getD i empty).sectors.length : Int) + 1 = D.size
              · rw [show appended (D.zones.getD i empty) s D.size = ⟨4, D.size, (D.zones.getD i empty).sectors ++ [s]⟩ by unfold appended; rw [if_pos hf]]
                exact refAppend_room_full F D a len cap i s w hF hz hm hi hc hs h5 h4 hopen hn hf
              · rw [show appended (D.zones.getD i empty) s D.size = ⟨1, (D.zones.getD i empty).durable, (D.zones.getD i empty).sectors ++ [s]⟩ by
                  unfold appended
                  rw [if_neg hf, if_neg (by rw [getD_of hzk, ← stateAt_of hzk, hopen]; decide)]]
                exact refAppend_room_more F D a len cap i s w hF hz hm hi hc hs h5 h4 hopen hn hf
            · obtain ⟨hr, ho⟩ := bad _ hn hee
              rw [hee, hr, ho]
              exact refAppend_none F D a len cap i s w hF hz hm hi hc hs h5 h4 hopen hn
    · have he : appendE D (i : Int) s = 2 := by simp [appendE, hE, hs]
      obtain ⟨hr, ho⟩ := bad 2 (by decide) he
      rw [he, hr, ho]
      exact refAppend_state F D a len cap i s 2 w hz hc hi (.inl ⟨hs, rfl⟩)
  · have he : appendE D k s = zoneE D k := by simp [appendE, hE]
    have hr : appendR D k s = D := by unfold appendR; rw [he, if_neg hE]
    have ho : appendO D k s = 0 := by unfold appendO; rw [he, if_neg hE]
    rw [he, hr, ho]
    by_cases hc : checkE D = 0
    · have hk : k < 0 ∨ (D.zones.length : Int) ≤ k := Classical.byContradiction fun h => hE (by unfold zoneE; rw [if_neg (by simp [hc]), if_neg h])
      rw [show zoneE D k = 5 by unfold zoneE; rw [if_neg (by simp [hc]), if_pos hk]]
      exact refAppend_zone F D a len cap k s w hz hc hk
    · rw [show zoneE D k = checkE D by unfold zoneE; rw [if_pos hc]]
      exact refAppend_check F D a len cap k s w hz hc
end Go.Proofs.Ytlmlmgegnnikeaa

/- The functions of devices without a bound on their zones: a device with too many zones is refused. -/
namespace Go.Proofs.Ytlmlmgegnnikeaa
open Go.RowKit Plan ZnsMath

theorem check_small {D : Dev} {len : Nat} (hl : D.zones.length = len) (h : checkE D = 0) : len ≤ 1000000 := by
  have := config_parts (check_parts h).1
  omega
theorem zoneE_bad {D : Dev} (k : Int) (h : checkE D ≠ 0) : zoneE D k ≠ 0 := by unfold zoneE; rw [if_pos h]; exact h
theorem beginE_bad {D : Dev} (k : Int) (h : checkE D ≠ 0) : beginE D k ≠ 0 := by unfold beginE; rw [if_pos (zoneE_bad k h)]; exact zoneE_bad k h
set_option maxHeartbeats 1000000 in
set_option maxRecDepth 20000 in
theorem refReset_err (F : Nat → Prop) (D : Dev) (a : Option Addr) (len cap : Nat) (k : Int) (w : World) (hz : ZonesIn w F a len cap D.zones) (hE : beginE D k ≠ 0) :
    Calls Try.prog 28 #[devV D a len cap, .int .i64 k] w (DevPost w F len (resetR D k) (beginE D k)) := by
  have hbg := fun W (h : Below w.heap.size w W) => refBegin_any D a len cap k W (hz.on (Agree.below h)).is
  have hB2 : Below w.heap.size w ((w.alloc (devRow D.size D.maxOpen D.maxActive a len cap)).alloc (devRow 0 0 0 none 0 0)) := ((Below.refl _ _).alloc (Nat.le_refl _) _).alloc (by simp) _
  rw [resetR_no hE]
  unfold DevPost
  generalize beginE D k = E at *
  have hE1 : (E != 0) = true := by simp [hE]
  have HB := Lib.hid hbg
  have HA := Lib.hid hB2
  clear hbg hB2 hE
  obtain ⟨size, op, act, Z⟩ := D
  go_enter Try.func28, Try.ntmps28
  go_wp2_with (first
    | (go_at_call 55; ((with_reducible refine (HB.out _ HA.out).mono ?_); rintro e w1 ⟨rfl, hb1⟩; have hx1 := row_on hb1 (heap_first w _ _) (by simp; omega); have hr1 := row_on hb1 (heap_second w _ _) (by simp); obtain ⟨y1, d0, d1, d2, d3⟩ := row4 hx1; have b1 := HA.out.trans (hb1.mono (by simp; omega))))
    | ((with_reducible refine Plan.store_lit 24 (.tmp 4) _ (w.heap.size + 1) ?_ hr1 ?_ ?_ ?_ ?_ ?_ ?_); rotate_left; (· rfl); (· rfl); (· exact dev_info); (· rfl); (· simp [Value.oneCell']); simp only [Act.put]))
  have b2 := below_setRow b1 (show w.heap.size ≤ w.heap.size + 1 by omega) #[.int .i64 size, .int .i64 op, .int .i64 act, .slice a len cap]
  refine bodyPost_ret (Plan.results_cell_tmp (p := 4) (q := 5) rfl _ _ _ _ _ _ _ rfl (setRow_heap _ _ _ _ _ _ hr1) Try.underlying24 rfl dev_info) rfl ⟨a, cap, rfl, (hz.on (Agree.below b2)).mono (fun b _ hb => .inl hb), b2⟩
set_option maxHeartbeats 1000000 in
set_option maxRecDepth 20000 in
theorem refFinish_err (F : Nat → Prop) (D : Dev) (a : Option Addr) (len cap : Nat) (k : Int) (w : World) (hz : ZonesIn w F a len cap D.zones) (hE : beginE D k ≠ 0) :
    Calls Try.prog 30 #[devV D a len cap, .int .i64 k] w (DevPost w F len (finishR D k) (beginE D k)) := by
  have hbg := fun W (h : Below w.heap.size w W) => refBegin_any D a len cap k W (hz.on (Agree.below h)).is
  have hB2 : Below w.heap.size w ((w.alloc (devRow D.size D.maxOpen D.maxActive a len cap)).alloc (devRow 0 0 0 none 0 0)) := ((Below.refl _ _).alloc (Nat.le_refl _) _).alloc (by simp) _
  rw [finishR_no hE]
  unfold DevPost
  generalize beginE D k = E at *
  have hE1 : (E != 0) = true := by simp [hE]
  have HB := Lib.hid hbg
  have HA := Lib.hid hB2
  clear hbg hB2 hE
  obtain ⟨size, op, act, Z⟩ := D
  go_enter Try.func30, Try.ntmps30
  go_wp2_with (first
    | (go_at_call 55; ((with_reducible refine (HB.out _ HA.out).mono ?_); rintro e w1 ⟨rfl, hb1⟩; have hx1 := row_on hb1 (heap_first w _ _) (by simp; omega); have hr1 := row_on hb1 (heap_second w _ _) (by simp); obtain ⟨y1, d0, d1, d2, d3⟩ := row4 hx1; have b1 := HA.out.trans (hb1.mono (by simp; omega))))
    | ((with_reducible refine Plan.store_lit 24 (.tmp 4) _ (w.heap.size + 1) ?_ hr1 ?_ ?_ ?_ ?_ ?_ ?_); rotate_left; (· rfl); (· rfl); (· exact dev_info); (· rfl); (· simp [Value.oneCell']); simp only [Act.put]))
  have b2 := below_setRow b1 (show w.heap.size ≤ w.heap.size + 1 by omega) #[.int .i64 size, .int .i64 op, .int .i64 act, .slice a len cap]
  refine bodyPost_ret (Plan.results_cell_tmp (p := 4) (q := 5) rfl _ _ _ _ _ _ _ rfl (setRow_heap _ _ _ _ _ _ hr1) Try.underlying24 rfl dev_info) rfl ⟨a, cap, rfl, (hz.on (Agree.below b2)).mono (fun b _ hb => .inl hb), b2⟩
theorem reset_all (F : Nat → Prop) (D : Dev) (a : Option Addr) (len cap : Nat) (k : Int) (w : World) (hF : ∀ b, F b → b < w.heap.size) (hz : ZonesIn w F a len cap D.zones) :
    Calls Try.prog 27 #[devV D a len cap, .int .i64 k] w (DevPost w F len (resetR D k) (beginE D k)) := by
  by_cases hc : checkE D = 0
  · exact reset_any F D a len cap k w hF hz (check_small hz.is.length hc)
  · rw [resetR_no (beginE_bad k hc)]
    exact reset_err F D a len cap k w hz (beginE_bad k hc)
theorem refReset_all (F : Nat → Prop) (D : Dev) (a : Option Addr) (len cap : Nat) (k : Int) (w : World) (hF : ∀ b, F b → b < w.heap.size) (hz : ZonesIn w F a len cap D.zones) :
    Calls Try.prog 28 #[devV D a len cap, .int .i64 k] w (DevPost w F len (resetR D k) (beginE D k)) := by
  by_cases hc : checkE D = 0
  · exact refReset_any F D a len cap k w hF hz (check_small hz.is.length hc)
  · exact refReset_err F D a len cap k w hz (beginE_bad k hc)
theorem finish_all (F : Nat → Prop) (D : Dev) (a : Option Addr) (len cap : Nat) (k : Int) (w : World) (hF : ∀ b, F b → b < w.heap.size) (hz : ZonesIn w F a len cap D.zones) :
    Calls Try.prog 29 #[devV D a len cap, .int .i64 k] w (DevPost w F len (finishR D k) (beginE D k)) := by
  by_cases hc : checkE D = 0
  · exact finish_any F D a len cap k w hF hz (check_small hz.is.length hc)
  · rw [finishR_no (beginE_bad k hc)]
    exact finish_err F D a len cap k w hz (beginE_bad k hc)
theorem refFinish_all (F : Nat → Prop) (D : Dev) (a : Option Addr) (len cap : Nat) (k : Int) (w : World) (hF : ∀ b, F b → b < w.heap.size) (hz : ZonesIn w F a len cap D.zones) :
    Calls Try.prog 30 #[devV D a len cap, .int .i64 k] w (DevPost w F len (finishR D k) (beginE D k)) := by
  by_cases hc : checkE D = 0
  · exact refFinish_any F D a len cap k w hF hz (check_small hz.is.length hc)
  · exact refFinish_err F D a len cap k w hz (beginE_bad k hc)
theorem open_all (F : Nat → Prop) (D : Dev) (a : Option Addr) (len cap : Nat) (k : Int) (w : World) (hF : ∀ b, F b → b < w.heap.size) (hz : ZonesIn w F a len cap D.zones) :
    Calls Try.prog 31 #[devV D a len cap, .int .i64 k] w (DevPost w F len (openR D k) (openE D k)) := by
  by_cases hc : checkE D = 0
  · exact open_any F D a len cap k w hF hz (check_small hz.is.length hc)
  · have hb : beginE D k = zoneE D k := by unfold beginE; rw [if_pos (zoneE_bad k hc)]
    have he : openE D k = zoneE D k := by simp [openE, hb, zoneE_bad k hc]
    rw [show openR D k = D by simp [openR, he, zoneE_bad k hc], he]
    exact open_err F D a len cap k w hz (zoneE_bad k hc)
theorem refOpen_all (F : Nat → Prop) (D : Dev) (a : Option Addr) (len cap : Nat) (k : Int) (w : World) (hF : ∀ b, F b → b < w.heap.size) (hz : ZonesIn w F a len cap D.zones) :
    Calls Try.prog 32 #[devV D a len cap, .int .i64 k] w (DevPost w F len (openR D k) (openE D k)) := by
  by_cases hc : checkE D = 0
  · exact refOpen_any F D a len cap k w hF hz (check_small hz.is.length hc)
  · have he : openE D k = beginE D k := by simp [openE, beginE_bad k hc]
    rw [show openR D k = D by simp [openR, he, beginE_bad k hc], he]
    exact refOpen_err F D a len cap k w hz (beginE_bad k hc)
theorem close_all (F : Nat → Prop) (D : Dev) (a : Option Addr) (len cap : Nat) (k : Int) (w : World) (hF : ∀ b, F b → b < w.heap.size) (hz : ZonesIn w F a len cap D.zones) :
    Calls Try.prog 33 #[devV D a len cap, .int .i64 k] w (DevPost w F len (closeR D k) (closeE D k)) := by
  by_cases hc : checkE D = 0
  · exact close_any F D a len cap k w hF hz (check_small hz.is.length hc)
  · have hb : beginE D k = zoneE D k := by unfold beginE; rw [if_pos (zoneE_bad k hc)]
    have he : closeE D k = zoneE D k := by simp [closeE, hb, zoneE_bad k hc]
    rw [show closeR D k = D by simp [closeR, he, zoneE_bad k hc], he]
    exact close_err F D a len cap k w hz (zoneE_bad k hc)
theorem refClose_all (F : Nat → Prop) (D : Dev) (a : Option Addr) (len cap : Nat) (k : Int) (w : World) (hF : ∀ b, F b → b < w.heap.size) (hz : ZonesIn w F a len cap D.zones) :
    Calls Try.prog 34 #[devV D a len cap, .int .i64 k] w (DevPost w F len (closeR D k) (closeE D k)) := by
  by_cases hc : checkE D = 0
  · exact refClose_any F D a len cap k w hF hz (check_small hz.is.length hc)
  · have he : closeE D k = beginE D k := by simp [closeE, beginE_bad k hc]
    rw [show closeR D k = D by simp [closeR, he, beginE_bad k hc], he]
    exact refClose_err F D a len cap k w hz (beginE_bad k hc)
theorem append_all (F : Nat → Prop) (D : Dev) (a : Option Addr) (len cap : Nat) (k : Int) (s : ByteArray) (w : World) (hF : ∀ b, F b → b < w.heap.size) (hz : ZonesIn w F a len cap D.zones) :
    Calls Try.prog 23 #[devV D a len cap, .int .i64 k, .string s] w (AppPost w F len (appendR D k s) (appendO D k s) (appendE D k s)) := by
  by_cases hc : checkE D = 0
  · exact append_any F D a len cap k s w hF hz (check_small hz.is.length hc)
  · have he : appendE D k s = zoneE D k := by simp [appendE, zoneE_bad k hc]
    rw [show appendR D k s = D by simp [appendR, he, zoneE_bad k hc], show appendO D k s = 0 by simp [appendO, he, zoneE_bad k hc], he]
    exact append_err F D a len cap k s w hz (zoneE_bad k hc)
theorem refAppend_all (F : Nat → Prop) (D : Dev) (a : Option Addr) (len cap : Nat) (k : Int) (s : ByteArray) (w : World) (hF : ∀ b, F b → b < w.heap.size) (hz : ZonesIn w F a len cap D.zones) :
    Calls Try.prog 25 #[devV D a len cap, .int .i64 k, .string s] w (AppPost w F len (appendR D k s) (appendO D k s) (appendE D k s)) := by
  by_cases hc : checkE D = 0
  · exact refAppend_any F D a len cap k s w hF hz (check_small hz.is.length hc)
  · have he : appendE D k s = zoneE D k := by simp [appendE, zoneE_bad k hc]
    rw [show appendR D k s = D by simp [appendR, he, zoneE_bad k hc], show appendO D k s = 0 by simp [appendO, he, zoneE_bad k hc], he]
    rw [show zoneE D k = checkE D by unfold zoneE; rw [if_pos hc]]
    exact refAppend_check F D a len cap k s w hz hc
end Go.Proofs.Ytlmlmgegnnikeaa

/- The walk of the laws' agree: the program and the document's own answer alike. -/
namespace Go.Proofs.Ytlmlmgegnnikeaa
open Go.RowKit Plan ZnsMath

/-- what a function that returns a device and an error leaves, for a device that is read -/
abbrev Dev2 (w : World) (n : Nat) (len : Nat) (R : Dev) (E : Int) (e : Ending) (w' : World) : Prop :=
  ∃ a cap, e = .returned (.tuple #[devV R a len cap, .int .i64 E]) ∧ ZonesIn w' (fun b => b < n ∨ w.heap.size ≤ b) a len cap R.zones ∧ Below w.heap.size w w'
theorem same_two {w : World} {F G : Nat → Prop} {R : Dev} {a b : Option Addr} {len cap cap2 : Nat} (hz : ZonesIn w F a len cap R.zones) (hy : ZonesIn w G b len cap2 R.zones) :
    Calls Try.prog 14 #[devV R a len cap, devV R b len cap2] w fun e w' => e = .returned (.bool true) ∧ Below w.heap.size w w' := refSame_any R a b len cap cap2 w hz.is hy.is
set_option maxHeartbeats 2000000 in
set_option maxRecDepth 20000 in
theorem agree_any (D : Dev) (a : Option Addr) (len cap : Nat) (k off : Int) (s : ByteArray) (w : World) (hz : IsZones w a len cap D.zones) :
    Calls Try.prog 11 #[devV D a len cap, .int .i64 k, .int .i64 off, .string s] w fun e w' => e = .returned (.bool true) ∧ Below w.heap.size w w' := by
  have hzi : ∀ W, Below w.heap.size w W → ZonesIn W (fun b => b < w.heap.size) a len cap D.zones := fun W h => (ZonesIn.of hz).on ⟨h.size, fun b _ hlt => h.block b hlt⟩
  have hlt : ∀ W, Below w.heap.size w W → ∀ b, b < w.heap.size → b < W.heap.size := fun W h b hb => Nat.lt_of_lt_of_le hb h.size
  have pA : ∀ W, Below w.heap.size w W → Calls Try.prog 23 #[devV D a len cap, .int .i64 k, .string s] W fun e w' => ∃ a' cap', e = .returned (.tuple #[devV (appendR D k s) a' len cap', .int .i64 (appendO D k s), .int .i64 (appendE D k s)]) ∧ ZonesIn w' (Plus (fun b => b < w.heap.size) W.heap.size) a' len cap' (appendR D k s).zones ∧ Below W.heap.size W w' := fun W h => append_all _ D a len cap k s W (hlt W h) (hzi W h)
  have rA : ∀ W, Below w.heap.size w W → Calls Try.prog 25 #[devV D a len cap, .int .i64 k, .string s] W fun e w' => ∃ a' cap', e = .returned (.tuple #[devV (appendR D k s) a' len cap', .int .i64 (appendO D k s), .int .i64 (appendE D k s)]) ∧ ZonesIn w' (Plus (fun b => b < w.heap.size) W.heap.size) a' len cap' (appendR D k s).zones ∧ Below W.heap.size W w' := fun W h => refAppend_all _ D a len cap k s W (hlt W h) (hzi W h)
  have pD := fun W (h : Below w.heap.size w W) => read_any D a len cap k off W (hzi W h).is
  have rD := fun W (h : Below w.heap.size w W) => refRead_any D a len cap k off W (hzi W h).is
  have pN := fun W (h : Below w.heap.size w W) => counts_any D a len cap W (hzi W h).is
  have rN := fun W (h : Below w.heap.size w W) => refCounts_any D a len cap W (hzi W h).is (hzi W h).is.len_le
  have pK := fun W (h : Below w.heap.size w W) => check_zns D a len cap W (hzi W h).is
  have rK := fun W (h : Below w.heap.size w W) => refCheck05_any D a len cap W (hzi W h).is
  have pReset : ∀ W, Below w.heap.size w W → Calls Try.prog 27 #[devV D a len cap, .int .i64 k] W fun e w' => ∃ a' cap', e = .returned (.tuple #[devV (resetR D k) a' len cap', .int .i64 (beginE D k)]) ∧ ZonesIn w' (Plus (fun b => b < w.heap.size) W.heap.size) a' len cap' (resetR D k).zones ∧ Below W.heap.size W w' := fun W h => reset_all _ D a len cap k W (hlt W h) (hzi W h)
  have rReset : ∀ W, Below w.heap.size w W → Calls Try.prog 28 #[devV D a len cap, .int .i64 k] W fun e w' => ∃ a' cap', e = .returned (.tuple #[devV (resetR D k) a' len cap', .int .i64 (beginE D k)]) ∧ ZonesIn w' (Plus (fun b => b < w.heap.size) W.heap.size) a' len cap' (resetR D k).zones ∧ Below W.heap.size W w' := fun W h => refReset_all _ D a len cap k W (hlt W h) (hzi W h)
  have pFinish : ∀ W, Below w.heap.size w W → Calls Try.prog 29 #[devV D a len cap, .int .i64 k] W fun e w' => ∃ a' cap', e = .returned (.tuple #[devV (finishR D k) a' len cap', .int .i64 (beginE D k)]) ∧ ZonesIn w' (Plus (fun b => b < w.heap.size) W.heap.size) a' len cap' (finishR D k).zones ∧ Below W.heap.size W w' := fun W h => finish_all _ D a len cap k W (hlt W h) (hzi W h)
  have rFinish : ∀ W, Below w.heap.size w W → Calls Try.prog 30 #[devV D a len cap, .int .i64 k] W fun e w' => ∃ a' cap', e = .returned (.tuple #[devV (finishR D k) a' len cap', .int .i64 (beginE D k)]) ∧ ZonesIn w' (Plus (fun b => b < w.heap.size) W.heap.size) a' len cap' (finishR D k).zones ∧ Below W.heap.size W w' := fun W h => refFinish_all _ D a len cap k W (hlt W h) (hzi W h)
  have pOpen : ∀ W, Below w.heap.size w W → Calls Try.prog 31 #[devV D a len cap, .int .i64 k] W fun e w' => ∃ a' cap', e = .returned (.tuple #[devV (openR D k) a' len cap', .int .i64 (openE D k)]) ∧ ZonesIn w' (Plus (fun b => b < w.heap.size) W.heap.size) a' len cap' (openR D k).zones ∧ Below W.heap.size W w' := fun W h => open_all _ D a len cap k W (hlt W h) (hzi W h)
  have rOpen : ∀ W, Below w.heap.size w W → Calls Try.prog 32 #[devV D a len cap, .int .i64 k] W fun e w' => ∃ a' cap', e = .returned (.tuple #[devV (openR D k) a' len cap', .int .i64 (openE D k)]) ∧ ZonesIn w' (Plus (fun b => b < w.heap.size) W.heap.size) a' len cap' (openR D k).zones ∧ Below W.heap.size W w' := fun W h => refOpen_all _ D a len cap k W (hlt W h) (hzi W h)
  have pClose : ∀ W, Below w.heap.size w W → Calls Try.prog 33 #[devV D a len cap, .int .i64 k] W fun e w' => ∃ a' cap', e = .returned (.tuple #[devV (closeR D k) a' len cap', .int .i64 (closeE D k)]) ∧ ZonesIn w' (Plus (fun b => b < w.heap.size) W.heap.size) a' len cap' (closeR D k).zones ∧ Below W.heap.size W w' := fun W h => close_all _ D a len cap k W (hlt W h) (hzi W h)
  have rClose : ∀ W, Below w.heap.size w W → Calls Try.prog 34 #[devV D a len cap, .int .i64 k] W fun e w' => ∃ a' cap', e = .returned (.tuple #[devV (closeR D k) a' len cap', .int .i64 (closeE D k)]) ∧ ZonesIn w' (Plus (fun b => b < w.heap.size) W.heap.size) a' len cap' (closeR D k).zones ∧ Below W.heap.size W w' := fun W h => refClose_all _ D a len cap k W (hlt W h) (hzi W h)
  generalize appendR D k s = RA at *
  generalize appendO D k s = OA at *
  generalize appendE D k s = EA at *
  generalize readR D k off = SR at *
  generalize readE D k off = ED at *
  generalize resetR D k = RR at *
  generalize beginE D k = EB at *
  generalize finishR D k = RF at *
  generalize openR D k = RO at *
  generalize openE D k = EO at *
  generalize closeR D k = RC at *
  generalize closeE D k = EC at *
  generalize checkE D = EK at *
  generalize countO D.zones = NO at *
  generalize countA D.zones = NA at *
  have HpA := Lib.hid pA
  have HrA := Lib.hid rA
  have HpD := Lib.hid pD
  have HrD := Lib.hid rD
  have HpN := Lib.hid pN
  have HrN := Lib.hid rN
  have HpK := Lib.hid pK
  have HrK := Lib.hid rK
  have HpReset := Lib.hid pReset
  have HrReset := Lib.hid rReset
  have HpFinish := Lib.hid pFinish
  have HrFinish := Lib.hid rFinish
  have HpOpen := Lib.hid pOpen
  have HrOpen := Lib.hid rOpen
  have HpClose := Lib.hid pClose
  have HrClose := Lib.hid rClose
  have HB1 := Lib.hid ((Below.refl w.heap.size w).alloc (Nat.le_refl _) (devRow D.size D.maxOpen D.maxActive a len cap))
  clear pA rA pD rD pN rN pK rK pReset rReset pFinish rFinish pOpen rOpen pClose rClose hzi hlt hz
  obtain ⟨size, op, act, Z⟩ := D
  obtain ⟨RAs, RAo, RAa, RAz⟩ := RA
  obtain ⟨RRs, RRo, RRa, RRz⟩ := RR
  obtain ⟨RFs, RFo, RFa, RFz⟩ := RF
  obtain ⟨ROs, ROo, ROa, ROz⟩ := RO
  obtain ⟨RCs, RCo, RCa, RCz⟩ := RC
  go_enter Try.func11, Try.ntmps11
  go_wp2_with (first
    | (go_at_call 23; ((with_reducible refine (HpA.out _ HB1.out).mono ?_); rintro e w1 ⟨a1, c1, rfl, za1, hb1⟩; have x1 := row_al (row_on hb1 (heap_alloc_new w _) (by simp)) (devRow RAs RAo RAa a1 len c1); have n1 := heap_alloc_new w1 (devRow RAs RAo RAa a1 len c1); have b1 := (HB1.out.trans (hb1.mono (by simp))); have b1' := b1.alloc b1.size (devRow RAs RAo RAa a1 len c1); have za1' := za1.on (Agree.below ((Below.refl _ _).alloc (Nat.le_refl _) (devRow RAs RAo RAa a1 len c1))); obtain ⟨y1, d0, d1, d2, d3⟩ := row4 x1))
    | (go_at_call 25; ((with_reducible refine (HrA.out _ b1').mono ?_); rintro e w2 ⟨a2, c2, rfl, zb2, hb2⟩; have x2 := row_al (row_on hb2 x1 (lt_of_block x1)) (devRow RAs RAo RAa a2 len c2); have p2 := row_al (row_on hb2 n1 (lt_of_block n1)) (devRow RAs RAo RAa a2 len c2); have q2 := heap_alloc_new w2 (devRow RAs RAo RAa a2 len c2); have b2 := b1'.trans (hb2.mono b1'.size); have b2' := b2.alloc b2.size (devRow RAs RAo RAa a2 len c2); have za2 := (za1'.on (Agree.below hb2)).on (Agree.below ((Below.refl _ _).alloc (Nat.le_refl _) (devRow RAs RAo RAa a2 len c2))); have zb2' := zb2.on (Agree.below ((Below.refl _ _).alloc (Nat.le_refl _) (devRow RAs RAo RAa a2 len c2))); clear d0 d1 d2 d3; obtain ⟨y2, d0, d1, d2, d3⟩ := row4 x2; obtain ⟨yp2, e0, e1, e2, e3⟩ := row4 p2; obtain ⟨yq2, f0, f1, f2, f3⟩ := row4 q2; have m1 : w.heap.size < w1.heap.size := lt_of_block (row_on hb1 (heap_alloc_new w _) (by simp)); have m2 : w1.heap.size < w2.heap.size := lt_of_block (row_on hb2 n1 (lt_of_block n1))))
    | (go_at_call 14; ((with_reducible refine (same_two (R := ⟨RAs, RAo, RAa, RAz⟩) za2 zb2').mono ?_); rintro e w3 ⟨rfl, hb3⟩; have x3 := row_on hb3 x2 (lt_of_block x2); have p3 := row_on hb3 p2 (lt_of_block p2); have q3 := row_on hb3 q2 (lt_of_block q2); have b3 := b2'.trans (hb3.mono b2'.size); clear d0 d1 d2 d3 e0 e1 e2 e3 f0 f1 f2 f3; obtain ⟨y3, d0, d1, d2, d3⟩ := row4 x3))
    | (go_at_call 22; ((with_reducible refine (HpD.out _ b3).mono ?_); rintro e w4 ⟨rfl, hb4⟩; have x4 := row_on hb4 x3 (lt_of_block x3); have p4 := row_on hb4 p3 (lt_of_block p3); have q4 := row_on hb4 q3 (lt_of_block q3); have b4 := b3.trans (hb4.mono b3.size); clear d0 d1 d2 d3; obtain ⟨y4, d0, d1, d2, d3⟩ := row4 x4))
    | (go_at_call 26; ((with_reducible refine (HrD.out _ b4).mono ?_); rintro e w5 ⟨rfl, hb5⟩; have x5 := row_on hb5 x4 (lt_of_block x4); have p5 := row_on hb5 p4 (lt_of_block p4); have q5 := row_on hb5 q4 (lt_of_block q4); have b5 := b4.trans (hb5.mono b4.size); clear d0 d1 d2 d3; obtain ⟨y5, d0, d1, d2, d3⟩ := row4 x5))
    | (go_at_call 27; ((with_reducible refine (HpReset.out _ b5).mono ?_); rintro e w6 ⟨a6, c6, rfl, za6, hb6⟩; have x6 := row_on hb6 x5 (lt_of_block x5); have p6 := row_on hb6 p5 (lt_of_block p5); have q6 := row_on hb6 q5 (lt_of_block q5); have b6 := b5.trans (hb6.mono b5.size); have g5 : w2.heap.size < w5.heap.size := lt_of_block q5))
    | ((with_reducible refine Plan.store_lit 24 (.tmp 9) _ w1.heap.size ?_ p6 ?_ ?_ ?_ ?_ ?_ ?_); rotate_left; (· rfl); (· rfl); (· exact dev_info); (· rfl); (· simp [Value.oneCell']); simp only [Act.put]; have p7 := setRow_heap _ _ _ #[.int .i64 RRs, .int .i64 RRo, .int .i64 RRa, .slice a6 len c6] _ _ p6; have x7 := (setRow_other _ w1.heap.size w.heap.size #[.int .i64 RRs, .int .i64 RRo, .int .i64 RRa, .slice a6 len c6] (by omega)).trans x6; have q7 := (setRow_other _ w1.heap.size w2.heap.size #[.int .i64 RRs, .int .i64 RRo, .int .i64 RRa, .slice a6 len c6] (by omega)).trans q6; have za7 := za6.on (Agree.row (r := w1.heap.size) (by rintro (h | h) <;> omega) #[.int .i64 RRs, .int .i64 RRo, .int .i64 RRa, .slice a6 len c6]); have b7 := below_setRow b6 (show w.heap.size ≤ w1.heap.size by omega) #[.int .i64 RRs, .int .i64 RRo, .int .i64 RRa, .slice a6 len c6]; generalize w6.setRow w1.heap.size #[.int .i64 RRs, .int .i64 RRo, .int .i64 RRa, .slice a6 len c6] = w7 at p7 x7 q7 za7 b7 ⊢; clear d0 d1 d2 d3; obtain ⟨y7, d0, d1, d2, d3⟩ := row4 x7)
    | (go_at_call 28; ((with_reducible refine (HrReset.out _ b7).mono ?_); rintro e w8 ⟨a8, c8, rfl, zb8, hb8⟩; have x8 := row_on hb8 x7 (lt_of_block x7); have p8 := row_on hb8 p7 (lt_of_block p7); have q8 := row_on hb8 q7 (lt_of_block q7); have b8 := b7.trans (hb8.mono b7.size); have za8 := za7.on (Agree.below hb8); have g7 : w2.heap.size < w7.heap.size := lt_of_block q7))
    | ((with_reducible refine Plan.store_lit 24 (.tmp 12) _ w2.heap.size ?_ q8 ?_ ?_ ?_ ?_ ?_ ?_); rotate_left; (· rfl); (· rfl); (· exact dev_info); (· rfl); (· simp [Value.oneCell']); simp only [Act.put]; have q9 := setRow_heap _ _ _ #[.int .i64 RRs, .int .i64 RRo, .int .i64 RRa, .slice a8 len c8] _ _ q8; have x9 := (setRow_other _ w2.heap.size w.heap.size #[.int .i64 RRs, .int .i64 RRo, .int .i64 RRa, .slice a8 len c8] (by omega)).trans x8; have p9 := (setRow_other _ w2.heap.size w1.heap.size #[.int .i64 RRs, .int .i64 RRo, .int .i64 RRa, .slice a8 len c8] (by omega)).trans p8; have za9 := za8.on (Agree.row (r := w2.heap.size) (by rintro (h | h) <;> omega) #[.int .i64 RRs, .int .i64 RRo, .int .i64 RRa, .slice a8 len c8]); have zb9 := zb8.on (Agree.row (r := w2.heap.size) (by rintro (h | h) <;> omega) #[.int .i64 RRs, .int .i64 RRo, .int .i64 RRa, .slice a8 len c8]); have b9 := below_setRow b8 (show w.heap.size ≤ w2.heap.size by omega) #[.int .i64 RRs, .int .i64 RRo, .int .i64 RRa, .slice a8 len c8]; generalize w8.setRow w2.heap.size #[.int .i64 RRs, .int .i64 RRo, .int .i64 RRa, .slice a8 len c8] = w9 at p9 x9 q9 za9 zb9 b9 ⊢; clear d0 d1 d2 d3; obtain ⟨y9, d0, d1, d2, d3⟩ := row4 x9; obtain ⟨yp9, e0, e1, e2, e3⟩ := row4 p9; obtain ⟨yq9, f0, f1, f2, f3⟩ := row4 q9)
    | (go_at_call 14; ((with_reducible refine (same_two (R := ⟨RRs, RRo, RRa, RRz⟩) za9 zb9).mono ?_); rintro e w10 ⟨rfl, hb10⟩; have x10 := row_on hb10 x9 (lt_of_block x9); have p10 := row_on hb10 p9 (lt_of_block p9); have q10 := row_on hb10 q9 (lt_of_block q9); have b10 := b9.trans (hb10.mono b9.size); clear d0 d1 d2 d3 e0 e1 e2 e3 f0 f1 f2 f3; obtain ⟨y10, d0, d1, d2, d3⟩ := row4 x10))
    | (go_at_call 29; ((with_reducible refine (HpFinish.out _ b10).mono ?_); rintro e w11 ⟨a11, c11, rfl, za11, hb11⟩; have x11 := row_on hb11 x10 (lt_of_block x10); have p11 := row_on hb11 p10 (lt_of_block p10); have q11 := row_on hb11 q10 (lt_of_block q10); have b11 := b10.trans (hb11.mono b10.size); have g10 : w2.heap.size < w10.heap.size := lt_of_block q10))
    | ((with_reducible refine Plan.store_lit 24 (.tmp 9) _ w1.heap.size ?_ p11 ?_ ?_ ?_ ?_ ?_ ?_); rotate_left; (· rfl); (· rfl); (· exact dev_info); (· rfl); (· simp [Value.oneCell']); simp only [Act.put]; have p12 := setRow_heap _ _ _ #[.int .i64 RFs, .int .i64 RFo, .int .i64 RFa, .slice a11 len c11] _ _ p11; have x12 := (setRow_other _ w1.heap.size w.heap.size #[.int .i64 RFs, .int .i64 RFo, .int .i64 RFa, .slice a11 len c11] (by omega)).trans x11; have q12 := (setRow_other _ w1.heap.size w2.heap.size #[.int .i64 RFs, .int .i64 RFo, .int .i64 RFa, .slice a11 len c11] (by omega)).trans q11; have za12 := za11.on (Agree.row (r := w1.heap.size) (by rintro (h | h) <;> omega) #[.int .i64 RFs, .int .i64 RFo, .int .i64 RFa, .slice a11 len c11]); have b12 := below_setRow b11 (show w.heap.size ≤ w1.heap.size by omega) #[.int .i64 RFs, .int .i64 RFo, .int .i64 RFa, .slice a11 len c11]; generalize w11.setRow w1.heap.size #[.int .i64 RFs, .int .i64 RFo, .int .i64 RFa, .slice a11 len c11] = w12 at p12 x12 q12 za12 b12 ⊢; clear d0 d1 d2 d3; obtain ⟨y12, d0, d1, d2, d3⟩ := row4 x12)
    | (go_at_call 30; ((with_reducible refine (HrFinish.out _ b12).mono ?_); rintro e w13 ⟨a13, c13, rfl, zb13, hb13⟩; have x13 := row_on hb13 x12 (lt_of_block x12); have p13 := row_on hb13 p12 (lt_of_block p12); have q13 := row_on hb13 q12 (lt_of_block q12); have b13 := b12.trans (hb13.mono b12.size); have za13 := za12.on (Agree.below hb13); have g12 : w2.heap.size < w12.heap.size := lt_of_block q12))
    | ((with_reducible refine Plan.store_lit 24 (.tmp 12) _ w2.heap.size ?_ q13 ?_ ?_ ?_ ?_ ?_ ?_); rotate_left; (· rfl); (· rfl); (· exact dev_info); (· rfl); (· simp [Value.oneCell']); simp only [Act.put]; have q14 := setRow_heap _ _ _ #[.int .i64 RFs, .int .i64 RFo, .int .i64 RFa, .slice a13 len c13] _ _ q13; have x14 := (setRow_other _ w2.heap.size w.heap.size #[.int .i64 RFs, .int .i64 RFo, .int .i64 RFa, .slice a13 len c13] (by omega)).trans x13; have p14 := (setRow_other _ w2.heap.size w1.heap.size #[.int .i64 RFs, .int .i64 RFo, .int .i64 RFa, .slice a13 len c13] (by omega)).trans p13; have za14 := za13.on (Agree.row (r := w2.heap.size) (by rintro (h | h) <;> omega) #[.int .i64 RFs, .int .i64 RFo, .int .i64 RFa, .slice a13 len c13]); have zb14 := zb13.on (Agree.row (r := w2.heap.size) (by rintro (h | h) <;> omega) #[.int .i64 RFs, .int .i64 RFo, .int .i64 RFa, .slice a13 len c13]); have b14 := below_setRow b13 (show w.heap.size ≤ w2.heap.size by omega) #[.int .i64 RFs, .int .i64 RFo, .int .i64 RFa, .slice a13 len c13]; generalize w13.setRow w2.heap.size #[.int .i64 RFs, .int .i64 RFo, .int .i64 RFa, .slice a13 len c13] = w14 at p14 x14 q14 za14 zb14 b14 ⊢; clear d0 d1 d2 d3; obtain ⟨y14, d0, d1, d2, d3⟩ := row4 x14; obtain ⟨yp14, e0, e1, e2, e3⟩ := row4 p14; obtain ⟨yq14, f0, f1, f2, f3⟩ := row4 q14)
    | (go_at_call 14; ((with_reducible refine (same_two (R := ⟨RFs, RFo, RFa, RFz⟩) za14 zb14).mono ?_); rintro e w15 ⟨rfl, hb15⟩; have x15 := row_on hb15 x14 (lt_of_block x14); have p15 := row_on hb15 p14 (lt_of_block p14); have q15 := row_on hb15 q14 (lt_of_block q14); have b15 := b14.trans (hb15.mono b14.size); clear d0 d1 d2 d3 e0 e1 e2 e3 f0 f1 f2 f3; obtain ⟨y15, d0, d1, d2, d3⟩ := row4 x15))
    | (go_at_call 31; ((with_reducible refine (HpOpen.out _ b15).mono ?_); rintro e w16 ⟨a16, c16, rfl, za16, hb16⟩; have x16 := row_on hb16 x15 (lt_of_block x15); have p16 := row_on hb16 p15 (lt_of_block p15); have q16 := row_on hb16 q15 (lt_of_block q15); have b16 := b15.trans (hb16.mono b15.size); have g15 : w2.heap.size < w15.heap.size := lt_of_block q15))
    | ((with_reducible refine Plan.store_lit 24 (.tmp 9) _ w1.heap.size ?_ p16 ?_ ?_ ?_ ?_ ?_ ?_); rotate_left; (· rfl); (· rfl); (· exact dev_info); (· rfl); (· simp [Value.oneCell']); simp only [Act.put]; have p17 := setRow_heap _ _ _ #[.int .i64 ROs, .int .i64 ROo, .int .i64 ROa, .slice a16 len c16] _ _ p16; have x17 := (setRow_other _ w1.heap.size w.heap.size #[.int .i64 ROs, .int .i64 ROo, .int .i64 ROa, .slice a16 len c16] (by omega)).trans x16; have q17 := (setRow_other _ w1.heap.size w2.heap.size #[.int .i64 ROs, .int .i64 ROo, .int .i64 ROa, .slice a16 len c16] (by omega)).trans q16; have za17 := za16.on (Agree.row (r := w1.heap.size) (by rintro (h | h) <;> omega) #[.int .i64 ROs, .int .i64 ROo, .int .i64 ROa, .slice a16 len c16]); have b17 := below_setRow b16 (show w.heap.size ≤ w1.heap.size by omega) #[.int .i64 ROs, .int .i64 ROo, .int .i64 ROa, .slice a16 len c16]; generalize w16.setRow w1.heap.size #[.int .i64 ROs, .int .i64 ROo, .int .i64 ROa, .slice a16 len c16] = w17 at p17 x17 q17 za17 b17 ⊢; clear d0 d1 d2 d3; obtain ⟨y17, d0, d1, d2, d3⟩ := row4 x17)
    | (go_at_call 32; ((with_reducible refine (HrOpen.out _ b17).mono ?_); rintro e w18 ⟨a18, c18, rfl, zb18, hb18⟩; have x18 := row_on hb18 x17 (lt_of_block x17); have p18 := row_on hb18 p17 (lt_of_block p17); have q18 := row_on hb18 q17 (lt_of_block q17); have b18 := b17.trans (hb18.mono b17.size); have za18 := za17.on (Agree.below hb18); have g17 : w2.heap.size < w17.heap.size := lt_of_block q17))
    | ((with_reducible refine Plan.store_lit 24 (.tmp 12) _ w2.heap.size ?_ q18 ?_ ?_ ?_ ?_ ?_ ?_); rotate_left; (· rfl); (· rfl); (· exact dev_info); (· rfl); (· simp [Value.oneCell']); simp only [Act.put]; have q19 := setRow_heap _ _ _ #[.int .i64 ROs, .int .i64 ROo, .int .i64 ROa, .slice a18 len c18] _ _ q18; have x19 := (setRow_other _ w2.heap.size w.heap.size #[.int .i64 ROs, .int .i64 ROo, .int .i64 ROa, .slice a18 len c18] (by omega)).trans x18; have p19 := (setRow_other _ w2.heap.size w1.heap.size #[.int .i64 ROs, .int .i64 ROo, .int .i64 ROa, .slice a18 len c18] (by omega)).trans p18; have za19 := za18.on (Agree.row (r := w2.heap.size) (by rintro (h | h) <;> omega) #[.int .i64 ROs, .int .i64 ROo, .int .i64 ROa, .slice a18 len c18]); have zb19 := zb18.on (Agree.row (r := w2.heap.size) (by rintro (h | h) <;> omega) #[.int .i64 ROs, .int .i64 ROo, .int .i64 ROa, .slice a18 len c18]); have b19 := below_setRow b18 (show w.heap.size ≤ w2.heap.size by omega) #[.int .i64 ROs, .int .i64 ROo, .int .i64 ROa, .slice a18 len c18]; generalize w18.setRow w2.heap.size #[.int .i64 ROs, .int .i64 ROo, .int .i64 ROa, .slice a18 len c18] = w19 at p19 x19 q19 za19 zb19 b19 ⊢; clear d0 d1 d2 d3; obtain ⟨y19, d0, d1, d2, d3⟩ := row4 x19; obtain ⟨yp19, e0, e1, e2, e3⟩ := row4 p19; obtain ⟨yq19, f0, f1, f2, f3⟩ := row4 q19)
    | (go_at_call 14; ((with_reducible refine (same_two (R := ⟨ROs, ROo, ROa, ROz⟩) za19 zb19).mono ?_); rintro e w20 ⟨rfl, hb20⟩; have x20 := row_on hb20 x19 (lt_of_block x19); have p20 := row_on hb20 p19 (lt_of_block p19); have q20 := row_on hb20 q19 (lt_of_block q19); have b20 := b19.trans (hb20.mono b19.size); clear d0 d1 d2 d3 e0 e1 e2 e3 f0 f1 f2 f3; obtain ⟨y20, d0, d1, d2, d3⟩ := row4 x20))
    | (go_at_call 33; ((with_reducible refine (HpClose.out _ b20).mono ?_); rintro e w21 ⟨a21, c21, rfl, za21, hb21⟩; have x21 := row_on hb21 x20 (lt_of_block x20); have p21 := row_on hb21 p20 (lt_of_block p20); have q21 := row_on hb21 q20 (lt_of_block q20); have b21 := b20.trans (hb21.mono b20.size); have g20 : w2.heap.size < w20.heap.size := lt_of_block q20))
    | ((with_reducible refine Plan.store_lit 24 (.tmp 9) _ w1.heap.size ?_ p21 ?_ ?_ ?_ ?_ ?_ ?_); rotate_left; (· rfl); (· rfl); (· exact dev_info); (· rfl); (· simp [Value.oneCell']); simp only [Act.put]; have p22 := setRow_heap _ _ _ #[.int .i64 RCs, .int .i64 RCo, .int .i64 RCa, .slice a21 len c21] _ _ p21; have x22 := (setRow_other _ w1.heap.size w.heap.size #[.int .i64 RCs, .int .i64 RCo, .int .i64 RCa, .slice a21 len c21] (by omega)).trans x21; have q22 := (setRow_other _ w1.heap.size w2.heap.size #[.int .i64 RCs, .int .i64 RCo, .int .i64 RCa, .slice a21 len c21] (by omega)).trans q21; have za22 := za21.on (Agree.row (r := w1.heap.size) (by rintro (h | h) <;> omega) #[.int .i64 RCs, .int .i64 RCo, .int .i64 RCa, .slice a21 len c21]); have b22 := below_setRow b21 (show w.heap.size ≤ w1.heap.size by omega) #[.int .i64 RCs, .int .i64 RCo, .int .i64 RCa, .slice a21 len c21]; generalize w21.setRow w1.heap.size #[.int .i64 RCs, .int .i64 RCo, .int .i64 RCa, .slice a21 len c21] = w22 at p22 x22 q22 za22 b22 ⊢; clear d0 d1 d2 d3; obtain ⟨y22, d0, d1, d2, d3⟩ := row4 x22)
    | (go_at_call 34; ((with_reducible refine (HrClose.out _ b22).mono ?_); rintro e w23 ⟨a23, c23, rfl, zb23, hb23⟩; have x23 := row_on hb23 x22 (lt_of_block x22); have p23 := row_on hb23 p22 (lt_of_block p22); have q23 := row_on hb23 q22 (lt_of_block q22); have b23 := b22.trans (hb23.mono b22.size); have za23 := za22.on (Agree.below hb23); have g22 : w2.heap.size < w22.heap.size := lt_of_block q22))
    | ((with_reducible refine Plan.store_lit 24 (.tmp 12) _ w2.heap.size ?_ q23 ?_ ?_ ?_ ?_ ?_ ?_); rotate_left; (· rfl); (· rfl); (· exact dev_info); (· rfl); (· simp [Value.oneCell']); simp only [Act.put]; have q24 := setRow_heap _ _ _ #[.int .i64 RCs, .int .i64 RCo, .int .i64 RCa, .slice a23 len c23] _ _ q23; have x24 := (setRow_other _ w2.heap.size w.heap.size #[.int .i64 RCs, .int .i64 RCo, .int .i64 RCa, .slice a23 len c23] (by omega)).trans x23; have p24 := (setRow_other _ w2.heap.size w1.heap.size #[.int .i64 RCs, .int .i64 RCo, .int .i64 RCa, .slice a23 len c23] (by omega)).trans p23; have za24 := za23.on (Agree.row (r := w2.heap.size) (by rintro (h | h) <;> omega) #[.int .i64 RCs, .int .i64 RCo, .int .i64 RCa, .slice a23 len c23]); have zb24 := zb23.on (Agree.row (r := w2.heap.size) (by rintro (h | h) <;> omega) #[.int .i64 RCs, .int .i64 RCo, .int .i64 RCa, .slice a23 len c23]); have b24 := below_setRow b23 (show w.heap.size ≤ w2.heap.size by omega) #[.int .i64 RCs, .int .i64 RCo, .int .i64 RCa, .slice a23 len c23]; generalize w23.setRow w2.heap.size #[.int .i64 RCs, .int .i64 RCo, .int .i64 RCa, .slice a23 len c23] = w24 at p24 x24 q24 za24 zb24 b24 ⊢; clear d0 d1 d2 d3; obtain ⟨y24, d0, d1, d2, d3⟩ := row4 x24; obtain ⟨yp24, e0, e1, e2, e3⟩ := row4 p24; obtain ⟨yq24, f0, f1, f2, f3⟩ := row4 q24)
    | (go_at_call 24; ((with_reducible refine (HpN.out _ b24).mono ?_); rintro e w25 ⟨rfl, hb25⟩; have x25 := row_on hb25 x24 (lt_of_block x24); have p25 := row_on hb25 p24 (lt_of_block p24); have q25 := row_on hb25 q24 (lt_of_block q24); have b25 := b24.trans (hb25.mono b24.size); clear d0 d1 d2 d3 e0 e1 e2 e3 f0 f1 f2 f3; obtain ⟨y25, d0, d1, d2, d3⟩ := row4 x25))
    | (go_at_call 35; ((with_reducible refine (HrN.out _ b25).mono ?_); rintro e w26 ⟨rfl, hb26⟩; have x26 := row_on hb26 x25 (lt_of_block x25); have p26 := row_on hb26 p25 (lt_of_block p25); have q26 := row_on hb26 q25 (lt_of_block q25); have b26 := b25.trans (hb26.mono b25.size); clear d0 d1 d2 d3; obtain ⟨y26, d0, d1, d2, d3⟩ := row4 x26; have za26 := (za24.on (Agree.below hb25)).on (Agree.below hb26); have zb26 := (zb24.on (Agree.below hb25)).on (Agree.below hb26))))
  refine Plan.start (fun W => DevAt W w.heap.size size op act a len cap ∧ DevAt W w1.heap.size RCs RCo RCa a21 len c21 ∧ DevAt W w2.heap.size RCs RCo RCa a23 len c23) [(0, true), (1, true), (2, true), (3, true), (4, true), (5, true), (6, false), (7, true), (8, true), (9, true), (10, true), (11, true), (12, true), (13, true), (14, true), (15, true), (16, true), (17, true), (18, true), (19, true), (21, true), (20, false), (22, false), (23, true), (24, true), (25, true)] (by kernel_rfl) (by kernel_rfl) (by kernel_rfl) (by kernel_rfl) ⟨(row4 x26).2, (row4 p26).2, (row4 q26).2⟩ ?_
  simp only [List.map_cons, List.map_nil, List.getElem?_toArray, List.getElem?_cons_zero, List.getElem?_cons_succ]
  repeat (first | (refine Plan.take ?_ (by rfl) ?_ ?_; rotate_left; (· rintro w9 ⟨⟨d0, d1, d2, d3⟩, ⟨e0, e1, e2, e3⟩, f0, f1, f2, f3⟩; go_simp; (try rw [if_neg (by omega)]); all_goals (with_reducible rfl)); simp only [Act.put, List.setIfInBounds_toArray, List.set_cons_zero, List.set_cons_succ]) | (refine Plan.pass (by rfl) ?_; simp only [Act.put, List.setIfInBounds_toArray, List.set_cons_zero, List.set_cons_succ]))
  have zad := za26.on (Agree.below (Below.refl _ _).drew)
  have zbd := zb26.on (Agree.below (Below.refl _ _).drew)
  refine Plan.call (by rfl) 14 _ ?_ (same_two (R := ⟨RCs, RCo, RCa, RCz⟩) zad zbd) ?_
  · go_simp
  rintro e w90 ⟨rfl, hb90⟩
  have hb90 := (Below.refl w26.heap.size w26).drew.trans hb90
  have x90 := row_on hb90 x26 (lt_of_block x26)
  have p90 := row_on hb90 p26 (lt_of_block p26)
  have q90 := row_on hb90 q26 (lt_of_block q26)
  have b90 := b26.trans (hb90.mono b26.size)
  refine ⟨_, rfl, ⟨(row4 x90).2, (row4 p90).2, (row4 q90).2⟩, ?_⟩
  simp only [Act.put, List.setIfInBounds_toArray, List.set_cons_zero, List.set_cons_succ]
  repeat (first | (refine Plan.take ?_ (by rfl) ?_ ?_; rotate_left; (· rintro w9 ⟨⟨d0, d1, d2, d3⟩, ⟨e0, e1, e2, e3⟩, f0, f1, f2, f3⟩; go_simp; (try rw [if_neg (by omega)]); all_goals (with_reducible rfl)); simp only [Act.put, List.setIfInBounds_toArray, List.set_cons_zero, List.set_cons_succ]) | (refine Plan.pass (by rfl) ?_; simp only [Act.put, List.setIfInBounds_toArray, List.set_cons_zero, List.set_cons_succ]))
  refine Plan.call (by rfl) 21 _ ?_ (HpK.out _ b90) ?_
  · go_simp
  rintro e w91 ⟨rfl, hb91⟩
  have x91 := row_on hb91 x90 (lt_of_block x90)
  have p91 := row_on hb91 p90 (lt_of_block p90)
  have q91 := row_on hb91 q90 (lt_of_block q90)
  have b91 := b90.trans (hb91.mono b90.size)
  refine ⟨_, rfl, ⟨(row4 x91).2, (row4 p91).2, (row4 q91).2⟩, ?_⟩
  simp only [Act.put, List.setIfInBounds_toArray, List.set_cons_zero, List.set_cons_succ]
  refine Plan.call (by rfl) 36 _ ?_ (HrK.out _ b91) ?_
  · go_simp
  rintro e w92 ⟨rfl, hb92⟩
  have x92 := row_on hb92 x91 (lt_of_block x91)
  have p92 := row_on hb92 p91 (lt_of_block p91)
  have q92 := row_on hb92 q91 (lt_of_block q91)
  have b92 := b91.trans (hb92.mono b91.size)
  refine ⟨_, rfl, ⟨(row4 x92).2, (row4 p92).2, (row4 q92).2⟩, ?_⟩
  simp only [Act.put, List.setIfInBounds_toArray, List.set_cons_zero, List.set_cons_succ]
  repeat (first | (refine Plan.take ?_ (by rfl) ?_ ?_; rotate_left; (· rintro w9 ⟨⟨d0, d1, d2, d3⟩, ⟨e0, e1, e2, e3⟩, f0, f1, f2, f3⟩; go_simp; (try rw [if_neg (by omega)]); all_goals (with_reducible rfl)); simp only [Act.put, List.setIfInBounds_toArray, List.set_cons_zero, List.set_cons_succ]) | (refine Plan.pass (by rfl) ?_; simp only [Act.put, List.setIfInBounds_toArray, List.set_cons_zero, List.set_cons_succ]))
  refine Plan.ends ?_
  go_wp2_with fail
  go_ret
  exact ⟨rfl, b92⟩
end Go.Proofs.Ytlmlmgegnnikeaa

/- The walk of the law's light: it answers, whatever. -/
namespace Go.Proofs.Ytlmlmgegnnikeaa
open Go.RowKit Plan ZnsMath

/-- it answers true or false -/
def AnyBool (e : Ending) : Prop := ∃ b, e = .returned (.bool b)
set_option maxHeartbeats 2000000 in
set_option maxRecDepth 20000 in
theorem lightDev_any (D : Dev) (a : Option Addr) (len cap : Nat) (w : World) (hz : IsZones w a len cap D.zones) :
    Calls Try.prog 9 #[devV D a len cap] w fun e w' => AnyBool e ∧ Below w.heap.size w w' := by
  have hm := hz.len_le
  have hB : Below w.heap.size w (w.alloc (devRow D.size D.maxOpen D.maxActive a len cap)) := (Below.refl _ _).alloc (Nat.le_refl _) _
  have hR := fun i (hi : i < len) => (hz.on hB (Nat.le_refl _)).zone i hi
  have HB := Lib.hid hB
  have HR := Lib.hid hR
  clear hB hR hz
  obtain ⟨size, op, act, Z⟩ := D
  go_enter Try.func9, Try.ntmps9
  go_wp2_with fail
  go_loop [3, 4] (fun p c => ∃ (k : Nat) (n : Int), c = .int .i64 k ∧ k ≤ len ∧ p = .int .i64 n) (fun _ c => len - (intOf c).toNat)
  case atStart => exact ⟨0, 0, rfl, by omega, rfl⟩
  case round =>
    obtain ⟨k, n, rfl, hk, rfl⟩ := hrel
    by_cases hlt : k < len
    · obtain ⟨x, z, sa, sl, sc, rfl, hzk, ⟨zc0, zc1, zc2⟩, hzs⟩ := HR.out k hlt
      have hkI : (k : Int) < (len : Int) := by omega
      have hsm := hzs.len_le
      have hX : ∀ i : Nat, i < sl → ∃ y s, sa = some y ∧ (w.alloc (devRow size op act (some x) len cap)).cell? (y.add i) = some (.string s) := fun i hi => by
        obtain ⟨y, k1, k2⟩ := hzs.some (by omega)
        have hl := hzs.length
        exact ⟨y, z.sectors[i]'(by omega), k1, (k2 i _ (List.getElem?_eq_getElem _)).1⟩
      have HX := Lib.hid hX
      clear hX hzs
      go_wp2_with fail
      go_loop [3, 5] (fun p c => ∃ (j : Nat) (m : Int), c = .int .i64 j ∧ j ≤ sl ∧ p = .int .i64 m) (fun _ c => sl - (intOf c).toNat)
      case atStart => exact ⟨0, _, rfl, by omega, rfl⟩
      case round =>
        obtain ⟨j, m, rfl, hj, rfl⟩ := hrel
        by_cases hlj : j < sl
        · obtain ⟨y, s, rfl, hc⟩ := HX.out j hlj
          have hjI : (j : Int) < (sl : Int) := by omega
          go_wp2_with fail
          go_round
          case rel => exact ⟨j + 1, _, by go_num, by omega, rfl⟩
          case measure => simp [intOf]; omega
        · obtain rfl : j = sl := by omega
          go_wp2_with fail
          go_round
          case rel => exact ⟨k + 1, _, by go_num, by omega, rfl⟩
          case measure => simp [intOf]; omega
    · obtain rfl : k = len := by omega
      go_wp2_with fail
      go_ret
      exact ⟨⟨_, rfl⟩, HB.out⟩
set_option maxHeartbeats 1000000 in
theorem znsRaw_all (D : Dev) (a : Option Addr) (len cap : Nat) (k off : Int) (s : ByteArray) (w : World) (hz : IsZones w a len cap D.zones) :
    Calls Try.prog 3 #[devV D a len cap, .int .i64 k, .int .i64 off, .string s] w fun e w' => e = .returned (.bool true) ∧ Below w.heap.size w w' := by
  have hB : Below w.heap.size w (w.alloc (devRow D.size D.maxOpen D.maxActive a len cap)) := (Below.refl _ _).alloc (Nat.le_refl _) _
  have hl := fun W (h : Below w.heap.size w W) => lightDev_any D a len cap W (hz.on h (Nat.le_refl _))
  have hg := fun W (h : Below w.heap.size w W) => agree_any D a len cap k off s W (hz.on h (Nat.le_refl _))
  have ha := fun W => awake_zns W
  have HB := Lib.hid hB
  have HL := Lib.hid hl
  have HG := Lib.hid hg
  have HA := Lib.hid ha
  clear hB hl hg ha hz
  obtain ⟨size, op, act, Z⟩ := D
  by_cases hs : (100 : Int) < (s.size : Int)
  all_goals
    go_enter Try.func3, Try.ntmps3
    go_wp2_with (first
      | (go_at_call 9; ((with_reducible refine (HL.out _ HB.out).mono ?_); rintro e w1 ⟨⟨b, rfl⟩, hb1⟩; have hx1 := row_on hb1 (heap_alloc_new w _) (by simp); have b1 := HB.out.trans (hb1.mono (by simp)); obtain ⟨y1, d0, d1, d2, d3⟩ := row4 hx1; cases b))
      | (go_at_call 11; ((with_reducible refine (HG.out _ b1).mono ?_); rintro e w2 ⟨rfl, hb2⟩; have b1 := b1.trans (hb2.mono b1.size)))
      | (go_at_call 10; ((with_reducible refine (HA.out _).mono ?_); rintro e w3 ⟨rfl, hb3⟩)))
    all_goals
      go_ret
      exact ⟨rfl, b1.trans (hb3.mono b1.size)⟩
end Go.Proofs.Ytlmlmgegnnikeaa
