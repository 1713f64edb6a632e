/- Texts that belong together, part 12. -/
import Derived.Test.YtlplomofgbmgaaaPack11
import Derived.Laws.AppendOwnNone

/- The walks of the program's Read and New. -/
namespace Go.Proofs.Ytlplomofgbmgaaa
open Go.RowKit Plan ZnsMath

theorem rights_empty (n : Nat) (size : Int) (h : 0 < size) : rightsB (List.replicate n empty) size = true := by
  unfold rightsB
  rw [List.all_eq_true]
  intro z hz
  obtain rfl := (List.mem_replicate.1 hz).2
  unfold rightB
  simp [empty, sizesB]
  omega
theorem counts_empty (n : Nat) : countO (List.replicate n empty) = 0 ∧ countA (List.replicate n empty) = 0 := by
  constructor <;> simp [countO, countA, empty, openB, activeB]
theorem newE_eq (zones size op act : Int) : newE zones size op act = if possibleB zones size op act = true then 0 else 11 := by
  unfold newE
  by_cases h : zones < 1 ∨ 32 < zones
  · rw [if_pos h, if_neg]
    unfold possibleB
    simp only [decide_eq_true_eq]
    omega
  · rw [if_neg h]
    have hc : configB (newD zones size op act) = possibleB zones size op act := by
      rw [configB_eq]
      simp only [newD, List.length_replicate]
      rw [Int.toNat_of_nonneg (by omega)]
    unfold checkE
    rw [hc]
    cases hp : possibleB zones size op act with
    | false => rfl
    | true =>
      unfold possibleB at hp
      simp only [decide_eq_true_eq] at hp
      have h2 := rights_empty zones.toNat size (by omega)
      have h3 := counts_empty zones.toNat
      rw [if_neg (by decide), if_pos rfl]
      rw [if_neg (by simp [newD, h2])]
      rw [if_neg]
      simp only [newD, h3.1, h3.2]
      omega
theorem refNew_any (zones size op act : Int) (w : World) :
    Calls Try.prog 24 #[.int .i64 zones, .int .i64 size, .int .i64 op, .int .i64 act] w
      (DevPost w (fun _ => False) (if newE zones size op act = 0 then zones.toNat else 0) (newR zones size op act) (newE zones size op act)) := by
  by_cases h : zones < 1 ∨ 32 < zones
  · have hE : newE zones size op act = 11 := by unfold newE; rw [if_pos h]
    have hR : newR zones size op act = zero := by unfold newR; rw [hE]; rfl
    rw [hR, hE]
    exact refNew_config zones size op act w h
  · obtain ⟨n, rfl⟩ : ∃ n : Nat, zones = (n : Int) := ⟨zones.toNat, by omega⟩
    rw [show (n : Int).toNat = n by simp]
    exact refNew_made n size op act w (by omega) (by omega)
end Go.Proofs.Ytlplomofgbmgaaa

/- The walk of the laws' sanity check. -/
namespace Go.Proofs.Ytlplomofgbmgaaa
open Go.RowKit Plan ZnsMath

theorem addr0 (a : Addr) : a.add 0 = a := by simp [Addr.add]
theorem ex_sector : ∃ S : ByteArray, S.size = 40 ∧ ∀ w, Calls Try.prog 40 #[.agg #[.int .i64 2, .int .i64 0, .int .i64 1, .int .i64 0, .string ⟨#[]⟩]] w fun e w' => e = .returned (.string S) ∧ Below w.heap.size w w' := by
  have hk : RecMath.checkE (mk 2 0 1 0 ⟨#[]⟩) = 0 := by rw [check_eq]; decide
  have hd := RecMath.enc_length hk
  have hs := sector_made 2 0 1 0 ⟨#[]⟩
  generalize RecMath.encL (mk 2 0 1 0 ⟨#[]⟩) = x at hd hs
  exact ⟨⟨x.toArray⟩, by simpa [ByteArray.size] using hd, hs⟩
end Go.Proofs.Ytlplomofgbmgaaa

/- Lists of sectors behind empty ones that the call owns. -/
namespace Go.Proofs.Ytlplomofgbmgaaa
open Go.RowKit Plan ZnsMath

theorem grown_same (w : World) (k : Option Nat) : w.grownBy w k := ⟨rfl, rfl, rfl, Nat.le_refl _, fun _ _ _ => rfl⟩
/-- a list behind an empty one that the call owns -/
theorem append_list {w : World} {ops : Array Oper} {rest : List Oper} {o : Oper} {a : Act} {Q : Exit → Act → World → Prop} (hgd : o.guard = none) (s x : Operand)
    (ho : o.op = .call { callee := .builtin .append, args := #[s, x], argTypes := #[26, 26] })
    (base : Nat) (v : Value) (hs : a.eval s = v) (hown : w.ownsRow base 9 1 v 0 []) (sa : Option Addr) (m c : Nat) (L : List ByteArray) (hx : a.eval x = .slice sa m c) (hl : IsStrs w sa m c L) (hm : m ≤ 1000000) (hbase : base ≤ w.heap.size)
    (h : ∀ v' w', w'.ownsRow base 9 1 v' m (strs L) → w.grownBy w' v.ownBlock → wpList Try.prog ops Q rest (a.put o.dst v') w') : wpList Try.prog ops Q (o :: rest) a w := by
  obtain ⟨i1, hi1, hy0, hy1, hy2⟩ := info_parts str_info
  cases sa with
  | none =>
    obtain ⟨rfl, rfl⟩ := hl.cap_le.2.2 rfl
    obtain rfl : L = [] := List.length_eq_zero_iff.1 hl.length
    exact wpList_append_own_none hgd s x 26 ho base 9 i1 1 Try.underlying26 hi1 v 0 [] hs hown hx (h v w hown (grown_same _ _))
  | some ad =>
    refine wpList_append_own w hgd s x 26 ho base 9 i1 _ 1 16 Try.underlying26 hi1 hy0 hy1 hy2 rfl (by decide) v 0 [] hs hown ad m c (strs L) hx (by rw [strs_length, hl.length]; omega) (strs_news hl) (strs_cells L) (by unfold maxLen; omega) (by omega) hbase ?_
    intro v' w' h1 h2 _
    rw [Nat.zero_add, List.nil_append] at h1
    exact h v' w' h1 h2
theorem append_one {w : World} {ops : Array Oper} {rest : List Oper} {o : Oper} {a : Act} {Q : Exit → Act → World → Prop} (hgd : o.guard = none) (p x : Operand)
    (ho : o.op = .call { callee := .builtin .append, args := #[p, x], argTypes := #[26, 26] })
    (base : Nat) (v : Value) (m : Nat) (L : List ByteArray) (hs : a.eval p = v) (hown : w.ownsRow base 9 1 v m (strs L)) (g : Nat) (s : ByteArray) (hx : a.eval x = .slice (some ⟨g, 0, none⟩) 1 1) (hc : w.cell? ⟨g, 0, none⟩ = some (.string s)) (hm : m ≤ 1000000) (hbase : base ≤ w.heap.size)
    (h : ∀ v' w', w'.ownsRow base 9 1 v' (m + 1) (strs (L ++ [s])) → w.grownBy w' v.ownBlock → wpList Try.prog ops Q rest (a.put o.dst v') w') : wpList Try.prog ops Q (o :: rest) a w := by
  obtain ⟨i1, hi1, hy0, hy1, hy2⟩ := info_parts str_info
  refine wpList_append_own w hgd p x 26 ho base 9 i1 _ 1 16 Try.underlying26 hi1 hy0 hy1 hy2 rfl (by decide) v m (strs L) hs hown ⟨g, 0, none⟩ 1 1 [.string s] hx rfl ?_ (by simp [Value.oneCell']) (by unfold maxLen; omega) (by omega) hbase ?_
  · intro j u hu
    have hj := (List.getElem?_eq_some_iff.1 hu).1
    obtain rfl : j = 0 := by simp at hj; omega
    obtain rfl : Value.string s = u := by simpa using hu
    rw [Addr.add_lit]
    exact hc
  · intro v' w' h1 h2 _
    exact h v' w' (by rw [strs_app]; exact h1) h2
/-- the store of a number -/
theorem run_store_int (w : World) (ty : TypeId) (b o : Nat) (k : IntKind) (n : Int) (hc : ∃ u, w.cell? ⟨b, o, none⟩ = some u) (hf : w.frozen? ⟨b, o, none⟩ = false) (hi : (Try.prog.info? ty).map (·.size) = some 1) :
    (storeVar ty ⟨b, o, none⟩ (.int k n)).run Try.prog w = .ok () (w.setCell ⟨b, o, none⟩ (.int k n)) := by
  obtain ⟨u, hu⟩ := hc
  cases hq : Try.prog.info? ty with
  | none => simp [hq] at hi
  | some i =>
    have hs : i.size = 1 := by simpa [hq] using hi
    have hst := run_store Try.prog w ⟨b, o, none⟩ (.int k n) .plain rfl
    rw [hu, hf] at hst
    simp only [Bool.false_eq_true, if_false] at hst
    have ha : (⟨b, o, none⟩ : Addr).add 0 = ⟨b, o, none⟩ := by rw [Addr.add_lit, Nat.add_zero]
    simp [storeVar, sizeOf, typeInfo, hq, Value.cells, hs, storeCells, ha, hst]
theorem wp_store_int {op : Oper} {a : Act} {w : World} {K : Act → World → Prop} {Q : Exit → Act → World → Prop} (ty : TypeId) (x y : Operand) (ho : op.op = .store ty x y)
    (b o : Nat) (k : IntKind) (n : Int) (hx : a.eval x = .pointer (some ⟨b, o, none⟩)) (hy : a.eval y = .int k n) (hc : ∃ u, w.cell? ⟨b, o, none⟩ = some u) (hf : w.frozen? ⟨b, o, none⟩ = false) (hi : (Try.prog.info? ty).map (·.size) = some 1)
    (h : K (a.put op.dst undef) (w.setCell ⟨b, o, none⟩ (.int k n))) : op.wp Try.prog a w K Q := by
  unfold Oper.wp execOp
  simp only [ho, hx, hy, Instr.storeAt, Instr.sureAddr, Sem.run_bind, Sem.run_pure, Result.andThen_ok, run_store_int w ty b o k n hc hf hi]
  exact h
theorem int_info1 : (Try.prog.info? 3).map (·.size) = some 1 := by kernel_rfl
/-- blocks below what the call owns stay -/
theorem row_grow {w w' : World} {B n k : Nat} {t : TypeId} {v : Value} {xs : List Value} {o : Obj} (ho : w.ownsRow B t 1 v n xs) (hg : w.grownBy w' v.ownBlock) (r : w.heap[k]? = some o) (hk : k < B) : w'.heap[k]? = some o :=
  (hg.block k (lt_of_block r) (fun e => by have := (ho.lt k e.symm).1; omega)).trans r
theorem strs_empty (w : World) {H : Nat} (hH : w.heap.size = H) : (w.alloc (.cells #[] 9)).ownsRow H 9 1 (.slice (some ⟨H, 0, none⟩) 0 0) 0 [] := by
  subst hH
  exact World.ownsRow_made (base := w.heap.size) (e := 9) (size := 1) w #[] 0 (Nat.le_refl _) (by unfold maxLen; decide) rfl
end Go.Proofs.Ytlplomofgbmgaaa

/- The walk of the document's own Append to an open zone. -/
namespace Go.Proofs.Ytlplomofgbmgaaa
open Go.RowKit Plan ZnsMath

theorem zone_small {D : Dev} {i sl : Nat} {z : Zone} (hc : checkE D = 0) (hzk : D.zones[i]? = some z) (hsl : z.sectors.length = sl) : sl ≤ 1000000 := by
  have hr := check_parts hc
  have h1 := config_parts hr.1
  have h2 := hr.2.1
  unfold rightsB at h2
  rw [List.all_eq_true] at h2
  have h3 := h2 z (List.mem_of_getElem? hzk)
  unfold rightB at h3
  simp only [Bool.and_eq_true, decide_eq_true_eq] at h3
  omega
set_option maxHeartbeats 2000000 in
set_option maxRecDepth 20000 in
theorem refAppend_open_more (F : Nat → Prop) (D : Dev) (a : Option Addr) (len cap i : Nat) (s : ByteArray) (w : World) (hF : ∀ b, F b → b < w.heap.size) (hz : ZonesIn w F a len cap D.zones) (hm : len ≤ 1000000) (hi : i < len) (hc : checkE D = 0) (hs : s.size = 40) (h5 : stateAt D (i : Int) ≠ 5) (h4 : stateAt D (i : Int) ≠ 4) (ho : openB (stateAt D (i : Int)) = true) (hfull : ((D.zones.getD i empty).sectors.length : Int) + 1 ≠ D.size) :
    Calls Try.prog 39 #[devV D a len cap, .int .i64 (i : Int), .string s] w (AppPost w F len (withZ D i ⟨(D.zones.getD i empty).state, (D.zones.getD i empty).durable, (D.zones.getD i empty).sectors ++ [s]⟩) ((D.zones.getD i empty).sectors.length : Int) 0) := by
  have hck := fun W (h : Below w.heap.size w W) => refCheck05_any D a len cap W (hz.on (Agree.below h)).is
  have hiI : (i : Int) < (len : Int) := by omega
  obtain ⟨x, z, sa, sl, sc, rfl, hzk, hza, hzs⟩ := hz.zone i hi
  have hxb := zone_block hza
  have hsl := hzs.1.length
  have hslm : sl ≤ 1000000 := zone_small hc hzk hsl
  have hsm : ∀ t ∈ z.sectors ++ [s], t.size ≤ maxLen := by
    intro t ht
    rcases List.mem_append.1 ht with h | h
    · exact strs_small hzs.1 t h
    · obtain rfl : t = s := by simpa using h
      unfold maxLen; omega
  have hs1 : ((s.size : Int) != 40) = false := by simp; omega
  rw [hc] at hck
  rw [getD_of hzk, hsl]
  rw [stateAt_of hzk] at ho h5 h4
  have e5 : (z.state == 5) = false := by simp [h5]
  have e4 : (z.state == 4) = false := by simp [h4]
  have hop := fun W => refOpened_any z.state W
  rw [ho] at hop
  have hA : Below w.heap.size w ((w.alloc (devRow D.size D.maxOpen D.maxActive (some x) len cap)).alloc (devRow 0 0 0 none 0 0)) := ((Below.refl _ _).alloc (Nat.le_refl _) _).alloc (by simp) _
  rw [getD_of hzk, hsl] at hfull
  have hfe : (((sl : Int) + 1) == D.size) = false := by simp [hfull]
  unfold AppPost
  have HK := Lib.hid hck
  have HO := Lib.hid hop
  have HA := Lib.hid hA
  have HZ := Lib.hid hza
  clear hck hop hA hza h5 h4 hs ho hc hfull
  obtain ⟨size, op, act, Z⟩ := D
  obtain ⟨st, du, L⟩ := z
  try simp only at hsm hsl
  go_enter Try.func39, Try.ntmps39
  go_wp2_with (first
    | (go_at_call 14; ((with_reducible refine (HK.out _ HA.out).mono ?_); rintro e w1 ⟨rfl, hb1⟩; have hx1 := row_on hb1 (heap_first2 w _ _) (by simp only [World.size_alloc]; omega); have hr1 := row_on hb1 (heap_second w _ _) (by simp only [World.size_alloc]; omega); obtain ⟨y1, d0, d1, d2, d3⟩ := row4 hx1; have b1 := HA.out.trans (hb1.mono (by simp only [World.size_alloc]; omega)); obtain ⟨zc0, zc1, zc2⟩ := HZ.out.on b1 hxb; have b3 := b1.alloc b1.size (devRow size op act (some x) len cap); obtain ⟨zd0, zd1, zd2⟩ := HZ.out.on b3 hxb; have hx3 := row_al hx1 (devRow size op act (some x) len cap); have hr3 := row_al hr1 (devRow size op act (some x) len cap); have hv3 := heap_alloc_new w1 (devRow size op act (some x) len cap); obtain ⟨y3, p0, p1, p2, p3⟩ := row4 hx3; obtain ⟨v3, l0, l1, l2, l3⟩ := row4 hv3; have n2 := lt_of_block hr1))
    | (go_at_call 44; ((with_reducible refine (HO.out _).mono ?_); rintro e wo ⟨rfl, rfl⟩))
    | (at_builtin; have E0 := strs_empty ((w1.alloc (devRow size op act (some x) len cap)).alloc (zoneRow st du sa sl sc)) (H := w1.heap.size + 1 + 1) (by simp only [World.size_alloc]); have c4 := ((Below.refl ((w1.alloc (devRow size op act (some x) len cap))).heap.size ((w1.alloc (devRow size op act (some x) len cap)))).alloc (Nat.le_refl _) (zoneRow st du sa sl sc)).alloc (by simp only [World.size_alloc]; omega) (.cells #[] 9); refine append_list rfl _ _ rfl (w1.heap.size + 1 + 1) (.slice (some ⟨w1.heap.size + 1 + 1, 0, none⟩) 0 0) rfl E0 sa sl sc L rfl ((hzs.on (Agree.below b3)).1.on c4 (Nat.le_refl _)) hslm (by simp only [World.size_alloc]; omega) ?_; intro v5 w5 hown5 hgrow5; have hx5 := row_grow E0 hgrow5 (row_al (row_al hx3 (zoneRow st du sa sl sc)) (.cells #[] 9)) (by omega); have hr5 := row_grow E0 hgrow5 (row_al (row_al hr3 (zoneRow st du sa sl sc)) (.cells #[] 9)) (by omega); have hv5 := row_grow E0 hgrow5 (row_al (row_al hv3 (zoneRow st du sa sl sc)) (.cells #[] 9)) (by omega); have hq3 : ((w1.alloc (devRow size op act (some x) len cap)).alloc (zoneRow st du sa sl sc)).heap[w1.heap.size + 1]? = some (zoneRow st du sa sl sc) := (by first | (have := heap_alloc_new ((w1.alloc (devRow size op act (some x) len cap))) (zoneRow st du sa sl sc); rwa [World.size_alloc] at this) | exact heap_alloc_new _ _); have hq5 := row_grow E0 hgrow5 (row_al hq3 (.cells #[] 9)) (by omega); have c5 := below_grow c4 E0 (by simp only [World.size_alloc]; omega) (by simp only [World.size_alloc]; omega) hgrow5; have own6 := Lib.hid (owns_on hown5 ((Below.refl _ _).alloc (Nat.le_refl _) (.cells #[.string s] 9))); clear E0 hown5 hgrow5)
    | (at_builtin; have m5 := c5.size; refine append_one rfl _ _ rfl (w1.heap.size + 1 + 1) v5 sl L rfl own6.out w5.heap.size s rfl (cell_of_row _ _ 0 _ _ _ (heap_alloc_new w5 _)) hslm (by have := lt_of_block hq5; simp only [World.size_alloc] at *; omega) ?_; intro v7 w7 hown7 hgrow7; obtain ⟨g7, c7v, rfl, hg7, hl7⟩ := owned_some hown7 (by omega); have hx7 := row_grow own6.out hgrow7 (row_al hx5 (.cells #[.string s] 9)) (by omega); have hr7 := row_grow own6.out hgrow7 (row_al hr5 (.cells #[.string s] 9)) (by omega); have hv7 := row_grow own6.out hgrow7 (row_al hv5 (.cells #[.string s] 9)) (by omega); have hq7 := row_grow own6.out hgrow7 (row_al hq5 (.cells #[.string s] 9)) (by omega); have c7 := below_grow (c5.alloc c5.size (.cells #[.string s] 9)) own6.out (by simp only [World.size_alloc]; omega) (by have := c5.size; simp only [World.size_alloc] at *; omega) hgrow7; have S7 := Lib.hid (strsIn_own (F := fun b => b = g7) hown7 hsm rfl); obtain ⟨y7, d0, d1, d2, d3⟩ := row4 hx7; obtain ⟨yq7, q0, q1, q2⟩ := row3 hq7; have f7 := row_free hq7 2; clear hown7 hgrow7))
  obtain ⟨n1, hn1⟩ : ∃ n1, n1 = w1.heap.size + 1 := ⟨_, rfl⟩
  have n0 : w.heap.size + 1 < w1.heap.size := n2
  have hx9 := (Below.heap_setCell w7 ⟨w1.heap.size + 1, 2, none⟩ (.slice (some ⟨g7, 0, none⟩) (sl + 1) c7v) w.heap.size (by show w.heap.size ≠ w1.heap.size + 1; omega)).trans hx7
  have hr9 := (Below.heap_setCell w7 ⟨w1.heap.size + 1, 2, none⟩ (.slice (some ⟨g7, 0, none⟩) (sl + 1) c7v) (w.heap.size + 1) (by show w.heap.size + 1 ≠ w1.heap.size + 1; omega)).trans hr7
  have hv9 := (Below.heap_setCell w7 ⟨w1.heap.size + 1, 2, none⟩ (.slice (some ⟨g7, 0, none⟩) (sl + 1) c7v) (w1.heap.size) (by show w1.heap.size ≠ w1.heap.size + 1; omega)).trans hv7
  have hq9 : (w7.setCell ⟨w1.heap.size + 1, 2, none⟩ (.slice (some ⟨g7, 0, none⟩) (sl + 1) c7v)).heap[w1.heap.size + 1]? = some (zoneRow st du (some ⟨g7, 0, none⟩) (sl + 1) c7v) := setCell_row hq7 2 (.slice (some ⟨g7, 0, none⟩) (sl + 1) c7v)
  have c9 := c7.setCell (show ((w1.alloc (devRow size op act (some x) len cap))).heap.size ≤ (⟨w1.heap.size + 1, 2, none⟩ : Addr).block by show ((w1.alloc (devRow size op act (some x) len cap))).heap.size ≤ w1.heap.size + 1; simp only [World.size_alloc]; omega) (.slice (some ⟨g7, 0, none⟩) (sl + 1) c7v)
  have S9 := S7.out.on (Agree.setCell (F := fun b => b = g7) (p := ⟨w1.heap.size + 1, 2, none⟩) (show ¬ w1.heap.size + 1 = g7 by omega) (.slice (some ⟨g7, 0, none⟩) (sl + 1) c7v))
  generalize w7.setCell ⟨w1.heap.size + 1, 2, none⟩ (.slice (some ⟨g7, 0, none⟩) (sl + 1) c7v) = w9 at hx9 hr9 hv9 hq9 c9 S9 ⊢
  clear S7 hx7 hr7 hv7 hq7 q0 q1 q2 f7 d0 d1 d2 d3
  have hz3 := (hz.on (Agree.below b3)).mono (G := Plus F n1) (fun _ _ h => .inl h)

  refine Plan.start (fun W => DevAt W (w1.heap.size) size op act (some x) len cap ∧ W.cell? ⟨w1.heap.size + 1, 0, none⟩ = some (.int .i64 st) ∧ W.cell? ⟨w1.heap.size + 1, 1, none⟩ = some (.int .i64 du) ∧ W.cell? ⟨w1.heap.size + 1, 2, none⟩ = some (.slice (some ⟨g7, 0, none⟩) (sl + 1) c7v)) [(0, true), (1, true), (2, true), (4, true), (5, true), (6, true), (7, true), (3, false), (8, false), (9, true), (10, true)] (by kernel_rfl) (by kernel_rfl) (by kernel_rfl) (by kernel_rfl) ⟨(row4 hv9).2, (row3 hq9).2⟩ ?_
  simp only [List.map_cons, List.map_nil, List.getElem?_toArray, List.getElem?_cons_zero, List.getElem?_cons_succ]
  repeat (first | (refine Plan.take ?_ (by rfl) ?_ ?_; rotate_left; (· rintro w9 ⟨⟨e0, e1, e2, e3⟩, z0, z1, z2⟩; go_simp; (try rw [if_neg (by omega)]); all_goals (with_reducible rfl)); simp only [Act.put, List.setIfInBounds_toArray, List.set_cons_zero, List.set_cons_succ]) | (refine Plan.pass (by rfl) ?_; simp only [Act.put, List.setIfInBounds_toArray, List.set_cons_zero, List.set_cons_succ]))
  have b9 := b3.trans (c9.mono b3.size)
  have hz9 := hz3.on (Agree.below c9.drew)
  have m9 := c9.size
  have hs9 : StrsIn w9.drew (Plus F n1) (some ⟨g7, 0, none⟩) (sl + 1) c7v (L ++ [s]) := StrsIn.mono (F := fun b => b = g7) (S9.on (Agree.below (Below.refl _ _).drew)) (fun b _ hb => .inr (by simp only [World.size_alloc] at *; omega))
  refine Plan.call (by rfl) 47 _ ?_ (with_agg (Plus F n1) ⟨size, op, act, Z⟩ (some x) len cap i st du (L ++ [s]) (some ⟨g7, 0, none⟩) (sl + 1) c7v w9.drew hz9 hi hm hs9) ?_
  · go_simp
  rintro e w10 ⟨a4, c4, rfl, hz10, hb10⟩
  have hb10 := (Below.refl w9.heap.size w9).drew.trans hb10
  have hr10 := row_on hb10 hr9 (lt_of_block hr9)
  have hv10 := row_on hb10 hv9 (lt_of_block hv9)
  have hq10 := row_on hb10 hq9 (lt_of_block hq9)
  have b10 := b9.trans (hb10.mono b9.size)
  refine ⟨_, rfl, ⟨(row4 hv10).2, (row3 hq10).2⟩, ?_⟩
  simp only [Act.put, List.setIfInBounds_toArray, List.set_cons_zero, List.set_cons_succ]
  have b11 := below_setRow b10 (show w.heap.size ≤ w.heap.size + 1 by omega) #[.int .i64 size, .int .i64 op, .int .i64 act, .slice a4 len c4]
  have hv11 := (setRow_other w10 (w.heap.size + 1) (w1.heap.size) #[.int .i64 size, .int .i64 op, .int .i64 act, .slice a4 len c4] (by omega)).trans hv10
  have hq11 := (setRow_other w10 (w.heap.size + 1) (w1.heap.size + 1) #[.int .i64 size, .int .i64 op, .int .i64 act, .slice a4 len c4] (by omega)).trans hq10
  have hlt9 := lt_of_block hr9
  refine Plan.store (by rfl) 24 _ _ rfl (w.heap.size + 1) #[.int .i64 size, .int .i64 op, .int .i64 act, .slice a4 len c4] (by rfl) (by rfl) 24 _ hr10 dev_info rfl (by simp [Value.oneCell']) ⟨(row4 hv11).2, (row3 hq11).2⟩ ?_
  simp only [Act.put]
  repeat (first | (refine Plan.take ?_ (by rfl) ?_ ?_; rotate_left; (· rintro w9 ⟨⟨e0, e1, e2, e3⟩, z0, z1, z2⟩; go_simp; (try rw [if_neg (by omega)]); all_goals (with_reducible rfl)); simp only [Act.put, List.setIfInBounds_toArray, List.set_cons_zero, List.set_cons_succ]) | (refine Plan.pass (by rfl) ?_; simp only [Act.put, List.setIfInBounds_toArray, List.set_cons_zero, List.set_cons_succ]))
  refine Plan.ends ?_
  go_wp2_with fail
  have hz11 := hz10.on (Agree.row (by
    rintro (h | h)
    · exact plus_not hF (by omega) (by omega) h
    · have h : w9.heap.size ≤ w.heap.size + 1 := h
      omega : ¬ Plus (Plus F n1) w9.drew.heap.size (w.heap.size + 1)) #[.int .i64 size, .int .i64 op, .int .i64 act, .slice a4 len c4])
  refine bodyPost_ret (results_cell_tmp2 (p := 6) (q := 7) (r := 8) rfl _ _ _ _ _ _ _ rfl (setRow_heap _ _ _ _ _ _ hr10) Try.underlying24 rfl dev_info) rfl ⟨a4, c4, ?_, hz11.mono ?_, b11⟩
  · have hwr : IntKind.i64.wrap (sl : Int) = (sl : Int) := by rw [IntKind.wrap_i64]; omega
    simp [hwr, withZ]
  have m10 := b9.size
  rintro b - ((h | h) | h)
  · exact .inl h
  · exact .inr (by omega)
  · exact .inr (Nat.le_trans m10 h)
set_option maxHeartbeats 2000000 in
set_option maxRecDepth 20000 in
theorem refAppend_open_full (F : Nat → Prop) (D : Dev) (a : Option Addr) (len cap i : Nat) (s : ByteArray) (w : World) (hF : ∀ b, F b → b < w.heap.size) (hz : ZonesIn w F a len cap D.zones) (hm : len ≤ 1000000) (hi : i < len) (hc : checkE D = 0) (hs : s.size = 40) (h5 : stateAt D (i : Int) ≠ 5) (h4 : stateAt D (i : Int) ≠ 4) (ho : openB (stateAt D (i : Int)) = true) (hfull : ((D.zones.getD i empty).sectors.length : Int) + 1 = D.size) :
    Calls Try.prog 39 #[devV D a len cap, .int .i64 (i : Int), .string s] w (AppPost w F len (withZ D i ⟨4, D.size, (D.zones.getD i empty).sectors ++ [s]⟩) ((D.zones.getD i empty).sectors.length : Int) 0) := by
  have hck := fun W (h : Below w.heap.size w W) => refCheck05_any D a len cap W (hz.on (Agree.below h)).is
  have hiI : (i : Int) < (len : Int) := by omega
  obtain ⟨x, z, sa, sl, sc, rfl, hzk, hza, hzs⟩ := hz.zone i hi
  have hxb := zone_block hza
  have hsl := hzs.1.length
  have hslm : sl ≤ 1000000 := zone_small hc hzk hsl
  have hsm : ∀ t ∈ z.sectors ++ [s], t.size ≤ maxLen := by
    intro t ht
    rcases List.mem_append.1 ht with h | h
    · exact strs_small hzs.1 t h
    · obtain rfl : t = s := by simpa using h
      unfold maxLen; omega
  have hs1 : ((s.size : Int) != 40) = false := by simp; omega
  rw [hc] at hck
  rw [getD_of hzk, hsl]
  rw [stateAt_of hzk] at ho h5 h4
  have e5 : (z.state == 5) = false := by simp [h5]
  have e4 : (z.state == 4) = false := by simp [h4]
  have hop := fun W => refOpened_any z.state W
  rw [ho] at hop
  have hA : Below w.heap.size w ((w.alloc (devRow D.size D.maxOpen D.maxActive (some x) len cap)).alloc (devRow 0 0 0 none 0 0)) := ((Below.refl _ _).alloc (Nat.le_refl _) _).alloc (by simp) _
  rw [getD_of hzk, hsl] at hfull
  have hfe : (((sl : Int) + 1) == D.size) = true := by simp [hfull]
  unfold AppPost
  have HK := Lib.hid hck
  have HO := Lib.hid hop
  have HA := Lib.hid hA
  have HZ := Lib.hid hza
  clear hck hop hA hza h5 h4 hs ho hc hfull
  obtain ⟨size, op, act, Z⟩ := D
  obtain ⟨st, du, L⟩ := z
  try simp only at hsm hsl
  go_enter Try.func39, Try.ntmps39
  go_wp2_with (first
    | (go_at_call 14; ((with_reducible refine (HK.out _ HA.out).mono ?_); rintro e w1 ⟨rfl, hb1⟩; have hx1 := row_on hb1 (heap_first2 w _ _) (by simp only [World.size_alloc]; omega); have hr1 := row_on hb1 (heap_second w _ _) (by simp only [World.size_alloc]; omega); obtain ⟨y1, d0, d1, d2, d3⟩ := row4 hx1; have b1 := HA.out.trans (hb1.mono (by simp only [World.size_alloc]; omega)); obtain ⟨zc0, zc1, zc2⟩ := HZ.out.on b1 hxb; have b3 := b1.alloc b1.size (devRow size op act (some x) len cap); obtain ⟨zd0, zd1, zd2⟩ := HZ.out.on b3 hxb; have hx3 := row_al hx1 (devRow size op act (some x) len cap); have hr3 := row_al hr1 (devRow size op act (some x) len cap); have hv3 := heap_alloc_new w1 (devRow size op act (some x) len cap); obtain ⟨y3, p0, p1, p2, p3⟩ := row4 hx3; obtain ⟨v3, l0, l1, l2, l3⟩ := row4 hv3; have n2 := lt_of_block hr1))
    | (go_at_call 44; ((with_reducible refine (HO.out _).mono ?_); rintro e wo ⟨rfl, rfl⟩))
    | (at_builtin; have E0 := strs_empty ((w1.alloc (devRow size op act (some x) len cap)).alloc (zoneRow st du sa sl sc)) (H := w1.heap.size + 1 + 1) (by simp only [World.size_alloc]); have c4 := ((Below.refl ((w1.alloc (devRow size op act (some x) len cap))).heap.size ((w1.alloc (devRow size op act (some x) len cap)))).alloc (Nat.le_refl _) (zoneRow st du sa sl sc)).alloc (by simp only [World.size_alloc]; omega) (.cells #[] 9); refine append_list rfl _ _ rfl (w1.heap.size + 1 + 1) (.slice (some ⟨w1.heap.size + 1 + 1, 0, none⟩) 0 0) rfl E0 sa sl sc L rfl ((hzs.on (Agree.below b3)).1.on c4 (Nat.le_refl _)) hslm (by simp only [World.size_alloc]; omega) ?_; intro v5 w5 hown5 hgrow5; have hx5 := row_grow E0 hgrow5 (row_al (row_al hx3 (zoneRow st du sa sl sc)) (.cells #[] 9)) (by omega); have hr5 := row_grow E0 hgrow5 (row_al (row_al hr3 (zoneRow st du sa sl sc)) (.cells #[] 9)) (by omega); have hv5 := row_grow E0 hgrow5 (row_al (row_al hv3 (zoneRow st du sa sl sc)) (.cells #[] 9)) (by omega); have hq3 : ((w1.alloc (devRow size op act (some x) len cap)).alloc (zoneRow st du sa sl sc)).heap[w1.heap.size + 1]? = some (zoneRow st du sa sl sc) := (by first | (have := heap_alloc_new ((w1.alloc (devRow size op act (some x) len cap))) (zoneRow st du sa sl sc); rwa [World.size_alloc] at this) | exact heap_alloc_new _ _); have hq5 := row_grow E0 hgrow5 (row_al hq3 (.cells #[] 9)) (by omega); have c5 := below_grow c4 E0 (by simp only [World.size_alloc]; omega) (by simp only [World.size_alloc]; omega) hgrow5; have own6 := Lib.hid (owns_on hown5 ((Below.refl _ _).alloc (Nat.le_refl _) (.cells #[.string s] 9))); clear E0 hown5 hgrow5)
    | (at_builtin; have m5 := c5.size; refine append_one rfl _ _ rfl (w1.heap.size + 1 + 1) v5 sl L rfl own6.out w5.heap.size s rfl (cell_of_row _ _ 0 _ _ _ (heap_alloc_new w5 _)) hslm (by have := lt_of_block hq5; simp only [World.size_alloc] at *; omega) ?_; intro v7 w7 hown7 hgrow7; obtain ⟨g7, c7v, rfl, hg7, hl7⟩ := owned_some hown7 (by omega); have hx7 := row_grow own6.out hgrow7 (row_al hx5 (.cells #[.string s] 9)) (by omega); have hr7 := row_grow own6.out hgrow7 (row_al hr5 (.cells #[.string s] 9)) (by omega); have hv7 := row_grow own6.out hgrow7 (row_al hv5 (.cells #[.string s] 9)) (by omega); have hq7 := row_grow own6.out hgrow7 (row_al hq5 (.cells #[.string s] 9)) (by omega); have c7 := below_grow (c5.alloc c5.size (.cells #[.string s] 9)) own6.out (by simp only [World.size_alloc]; omega) (by have := c5.size; simp only [World.size_alloc] at *; omega) hgrow7; have S7 := Lib.hid (strsIn_own (F := fun b => b = g7) hown7 hsm rfl); obtain ⟨y7, d0, d1, d2, d3⟩ := row4 hx7; obtain ⟨yq7, q0, q1, q2⟩ := row3 hq7; have f7 := row_free hq7 2; clear hown7 hgrow7))
  obtain ⟨n1, hn1⟩ : ∃ n1, n1 = w1.heap.size + 1 := ⟨_, rfl⟩
  have n0 : w.heap.size + 1 < w1.heap.size := n2
  have hx9 := (Below.heap_setCell w7 ⟨w1.heap.size + 1, 2, none⟩ (.slice (some ⟨g7, 0, none⟩) (sl + 1) c7v) w.heap.size (by show w.heap.size ≠ w1.heap.size + 1; omega)).trans hx7
  have hr9 := (Below.heap_setCell w7 ⟨w1.heap.size + 1, 2, none⟩ (.slice (some ⟨g7, 0, none⟩) (sl + 1) c7v) (w.heap.size + 1) (by show w.heap.size + 1 ≠ w1.heap.size + 1; omega)).trans hr7
  have hv9 := (Below.heap_setCell w7 ⟨w1.heap.size + 1, 2, none⟩ (.slice (some ⟨g7, 0, none⟩) (sl + 1) c7v) (w1.heap.size) (by show w1.heap.size ≠ w1.heap.size + 1; omega)).trans hv7
  have hq9 : (w7.setCell ⟨w1.heap.size + 1, 2, none⟩ (.slice (some ⟨g7, 0, none⟩) (sl + 1) c7v)).heap[w1.heap.size + 1]? = some (zoneRow st du (some ⟨g7, 0, none⟩) (sl + 1) c7v) := setCell_row hq7 2 (.slice (some ⟨g7, 0, none⟩) (sl + 1) c7v)
  have c9 := c7.setCell (show ((w1.alloc (devRow size op act (some x) len cap))).heap.size ≤ (⟨w1.heap.size + 1, 2, none⟩ : Addr).block by show ((w1.alloc (devRow size op act (some x) len cap))).heap.size ≤ w1.heap.size + 1; simp only [World.size_alloc]; omega) (.slice (some ⟨g7, 0, none⟩) (sl + 1) c7v)
  have S9 := S7.out.on (Agree.setCell (F := fun b => b = g7) (p := ⟨w1.heap.size + 1, 2, none⟩) (show ¬ w1.heap.size + 1 = g7 by omega) (.slice (some ⟨g7, 0, none⟩) (sl + 1) c7v))
  generalize w7.setCell ⟨w1.heap.size + 1, 2, none⟩ (.slice (some ⟨g7, 0, none⟩) (sl + 1) c7v) = w9 at hx9 hr9 hv9 hq9 c9 S9 ⊢
  clear S7 hx7 hr7 hv7 hq7 q0 q1 q2 f7 d0 d1 d2 d3
  have hz3 := (hz.on (Agree.below b3)).mono (G := Plus F n1) (fun _ _ h => .inl h)

  refine Plan.start (fun W => DevAt W w.heap.size size op act (some x) len cap) [(0, true), (1, true), (2, true), (3, false), (4, true), (5, false)] (by kernel_rfl) (by kernel_rfl) (by kernel_rfl) (by kernel_rfl) (row4 hx9).2 ?_
  simp only [List.map_cons, List.map_nil, List.getElem?_toArray, List.getElem?_cons_zero, List.getElem?_cons_succ]
  repeat (first | (refine Plan.take ?_ (by rfl) ?_ ?_; rotate_left; (· rintro w9 ⟨e0, e1, e2, e3⟩; go_simp; (try rw [if_neg (by omega)]); all_goals (with_reducible rfl)); simp only [Act.put, List.setIfInBounds_toArray, List.set_cons_zero, List.set_cons_succ]) | (refine Plan.pass (by rfl) ?_; simp only [Act.put, List.setIfInBounds_toArray, List.set_cons_zero, List.set_cons_succ]))
  have k0 : w9.drew.cell? ⟨w1.heap.size + 1, 0, none⟩ = some (.int .i64 st) := (row3 hq9).2.1
  have f0 : w9.drew.frozen? ⟨w1.heap.size + 1, 0, none⟩ = false := row_free hq9 0
  have hx10 : (w9.drew.setCell ⟨w1.heap.size + 1, 0, none⟩ (.int .i64 4)).heap[w.heap.size]? = _ := (Below.heap_setCell w9.drew ⟨w1.heap.size + 1, 0, none⟩ (.int .i64 4) w.heap.size (by show w.heap.size ≠ w1.heap.size + 1; omega)).trans hx9
  have hr10 : (w9.drew.setCell ⟨w1.heap.size + 1, 0, none⟩ (.int .i64 4)).heap[w.heap.size + 1]? = _ := (Below.heap_setCell w9.drew ⟨w1.heap.size + 1, 0, none⟩ (.int .i64 4) (w.heap.size + 1) (by show w.heap.size + 1 ≠ w1.heap.size + 1; omega)).trans hr9
  have hv10 : (w9.drew.setCell ⟨w1.heap.size + 1, 0, none⟩ (.int .i64 4)).heap[w1.heap.size]? = _ := (Below.heap_setCell w9.drew ⟨w1.heap.size + 1, 0, none⟩ (.int .i64 4) (w1.heap.size) (by show w1.heap.size ≠ w1.heap.size + 1; omega)).trans hv9
  have hq10 : (w9.drew.setCell ⟨w1.heap.size + 1, 0, none⟩ (.int .i64 4)).heap[w1.heap.size + 1]? = some (zoneRow 4 du (some ⟨g7, 0, none⟩) (sl + 1) c7v) := setCell_row (w := w9.drew) hq9 0 (.int .i64 4)
  have c10 := c9.drew.setCell (show ((w1.alloc (devRow size op act (some x) len cap))).heap.size ≤ (⟨w1.heap.size + 1, 0, none⟩ : Addr).block by show ((w1.alloc (devRow size op act (some x) len cap))).heap.size ≤ w1.heap.size + 1; simp only [World.size_alloc]; omega) (.int .i64 4)
  have S10 := (S9.on (Agree.below (Below.refl _ _).drew)).on (Agree.setCell (F := fun b => b = g7) (p := ⟨w1.heap.size + 1, 0, none⟩) (show ¬ w1.heap.size + 1 = g7 by omega) (.int .i64 4))
  refine Plan.carry (by rfl) (wp_store_int 3 _ _ rfl (w1.heap.size + 1) 0 .i64 4 (by rfl) (by rfl) ⟨_, k0⟩ f0 int_info1 ⟨(row4 hx10).2, ?_⟩)
  clear k0 f0
  generalize w9.drew.setCell ⟨w1.heap.size + 1, 0, none⟩ (.int .i64 4) = w10 at hx10 hr10 hv10 hq10 c10 S10 ⊢
  simp only [Act.put]
  repeat (first | (refine Plan.take ?_ (by rfl) ?_ ?_; rotate_left; (· rintro w9 ⟨e0, e1, e2, e3⟩; go_simp; (try rw [if_neg (by omega)]); all_goals (with_reducible rfl)); simp only [Act.put, List.setIfInBounds_toArray, List.set_cons_zero, List.set_cons_succ]) | (refine Plan.pass (by rfl) ?_; simp only [Act.put, List.setIfInBounds_toArray, List.set_cons_zero, List.set_cons_succ]))
  have k0 : w10.cell? ⟨w1.heap.size + 1, 1, none⟩ = some (.int .i64 du) := (row3 hq10).2.2.1
  have f0 : w10.frozen? ⟨w1.heap.size + 1, 1, none⟩ = false := row_free hq10 1
  have hx11 := (Below.heap_setCell w10 ⟨w1.heap.size + 1, 1, none⟩ (.int .i64 size) w.heap.size (by show w.heap.size ≠ w1.heap.size + 1; omega)).trans hx10
  have hr11 := (Below.heap_setCell w10 ⟨w1.heap.size + 1, 1, none⟩ (.int .i64 size) (w.heap.size + 1) (by show w.heap.size + 1 ≠ w1.heap.size + 1; omega)).trans hr10
  have hv11 := (Below.heap_setCell w10 ⟨w1.heap.size + 1, 1, none⟩ (.int .i64 size) (w1.heap.size) (by show w1.heap.size ≠ w1.heap.size + 1; omega)).trans hv10
  have hq11 : (w10.setCell ⟨w1.heap.size + 1, 1, none⟩ (.int .i64 size)).heap[w1.heap.size + 1]? = some (zoneRow 4 size (some ⟨g7, 0, none⟩) (sl + 1) c7v) := setCell_row hq10 1 (.int .i64 size)
  have c11 := c10.setCell (show ((w1.alloc (devRow size op act (some x) len cap))).heap.size ≤ (⟨w1.heap.size + 1, 1, none⟩ : Addr).block by show ((w1.alloc (devRow size op act (some x) len cap))).heap.size ≤ w1.heap.size + 1; simp only [World.size_alloc]; omega) (.int .i64 size)
  have S11 := S10.on (Agree.setCell (F := fun b => b = g7) (p := ⟨w1.heap.size + 1, 1, none⟩) (show ¬ w1.heap.size + 1 = g7 by omega) (.int .i64 size))
  refine Plan.carry (by rfl) (wp_store_int 3 _ _ rfl (w1.heap.size + 1) 1 .i64 size (by rfl) (by rfl) ⟨_, k0⟩ f0 int_info1 ⟨(row4 hx11).2, ?_⟩)
  clear k0 f0
  generalize w10.setCell ⟨w1.heap.size + 1, 1, none⟩ (.int .i64 size) = w11 at hx11 hr11 hv11 hq11 c11 S11 ⊢
  simp only [Act.put]
  refine Plan.ends ?_
  clear hx9 hr9 hv9 hq9 c9 S9 hx10 hr10 hv10 hq10 c10 S10
  obtain ⟨w9, rfl⟩ : ∃ w9, w9 = w11 := ⟨_, rfl⟩
  have hx9 := hx11
  have hr9 := hr11
  have hv9 := hv11
  have hq9 := hq11
  have c9 := c11
  have S9 := S11
  clear hx11 hr11 hv11 hq11 c11 S11
  go_wp2_with fail
  refine Plan.start (fun W => DevAt W (w1.heap.size) size op act (some x) len cap ∧ W.cell? ⟨w1.heap.size + 1, 0, none⟩ = some (.int .i64 4) ∧ W.cell? ⟨w1.heap.size + 1, 1, none⟩ = some (.int .i64 size) ∧ W.cell? ⟨w1.heap.size + 1, 2, none⟩ = some (.slice (some ⟨g7, 0, none⟩) (sl + 1) c7v)) [(0, true), (1, true), (2, true), (4, true), (5, true), (6, true), (7, true), (3, false), (8, false), (9, true), (10, true)] (by kernel_rfl) (by kernel_rfl) (by kernel_rfl) (by kernel_rfl) ⟨(row4 hv9).2, (row3 hq9).2⟩ ?_
  simp only [List.map_cons, List.map_nil, List.getElem?_toArray, List.getElem?_cons_zero, List.getElem?_cons_succ]
  repeat (first | (refine Plan.take ?_ (by rfl) ?_ ?_; rotate_left; (· rintro w9 ⟨⟨e0, e1, e2, e3⟩, z0, z1, z2⟩; go_simp; (try rw [if_neg (by omega)]); all_goals (with_reducible rfl)); simp only [Act.put, List.setIfInBounds_toArray, List.set_cons_zero, List.set_cons_succ]) | (refine Plan.pass (by rfl) ?_; simp only [Act.put, List.setIfInBounds_toArray, List.set_cons_zero, List.set_cons_succ]))
  have b9 := b3.trans (c9.mono b3.size)
  have hz9 := hz3.on (Agree.below c9.drew)
  have m9 := c9.size
  have hs9 : StrsIn w9.drew (Plus F n1) (some ⟨g7, 0, none⟩) (sl + 1) c7v (L ++ [s]) := StrsIn.mono (F := fun b => b = g7) (S9.on (Agree.below (Below.refl _ _).drew)) (fun b _ hb => .inr (by simp only [World.size_alloc] at *; omega))
  refine Plan.call (by rfl) 47 _ ?_ (with_agg (Plus F n1) ⟨size, op, act, Z⟩ (some x) len cap i 4 size (L ++ [s]) (some ⟨g7, 0, none⟩) (sl + 1) c7v w9.drew hz9 hi hm hs9) ?_
  · go_simp
  rintro e w10 ⟨a4, c4, rfl, hz10, hb10⟩
  have hb10 := (Below.refl w9.heap.size w9).drew.trans hb10
  have hr10 := row_on hb10 hr9 (lt_of_block hr9)
  have hv10 := row_on hb10 hv9 (lt_of_block hv9)
  have hq10 := row_on hb10 hq9 (lt_of_block hq9)
  have b10 := b9.trans (hb10.mono b9.size)
  refine ⟨_, rfl, ⟨(row4 hv10).2, (row3 hq10).2⟩, ?_⟩
  simp only [Act.put, List.setIfInBounds_toArray, List.set_cons_zero, List.set_cons_succ]
  have b11 := below_setRow b10 (show w.heap.size ≤ w.heap.size + 1 by omega) #[.int .i64 size, .int .i64 op, .int .i64 act, .slice a4 len c4]
  have hv11 := (setRow_other w10 (w.heap.size + 1) (w1.heap.size) #[.int .i64 size, .int .i64 op, .int .i64 act, .slice a4 len c4] (by omega)).trans hv10
  have hq11 := (setRow_other w10 (w.heap.size + 1) (w1.heap.size + 1) #[.int .i64 size, .int .i64 op, .int .i64 act, .slice a4 len c4] (by omega)).trans hq10
  have hlt9 := lt_of_block hr9
  refine Plan.store (by rfl) 24 _ _ rfl (w.heap.size + 1) #[.int .i64 size, .int .i64 op, .int .i64 act, .slice a4 len c4] (by rfl) (by rfl) 24 _ hr10 dev_info rfl (by simp [Value.oneCell']) ⟨(row4 hv11).2, (row3 hq11).2⟩ ?_
  simp only [Act.put]
  repeat (first | (refine Plan.take ?_ (by rfl) ?_ ?_; rotate_left; (· rintro w9 ⟨⟨e0, e1, e2, e3⟩, z0, z1, z2⟩; go_simp; (try rw [if_neg (by omega)]); all_goals (with_reducible rfl)); simp only [Act.put, List.setIfInBounds_toArray, List.set_cons_zero, List.set_cons_succ]) | (refine Plan.pass (by rfl) ?_; simp only [Act.put, List.setIfInBounds_toArray, List.set_cons_zero, List.set_cons_succ]))
  refine Plan.ends ?_
  go_wp2_with fail
  have hz11 := hz10.on (Agree.row (by
    rintro (h | h)
    · exact plus_not hF (by omega) (by omega) h
    · have h : w9.heap.size ≤ w.heap.size + 1 := h
      omega : ¬ Plus (Plus F n1) w9.drew.heap.size (w.heap.size + 1)) #[.int .i64 size, .int .i64 op, .int .i64 act, .slice a4 len c4])
  refine bodyPost_ret (results_cell_tmp2 (p := 6) (q := 7) (r := 8) rfl _ _ _ _ _ _ _ rfl (setRow_heap _ _ _ _ _ _ hr10) Try.underlying24 rfl dev_info) rfl ⟨a4, c4, ?_, hz11.mono ?_, b11⟩
  · have hwr : IntKind.i64.wrap (sl : Int) = (sl : Int) := by rw [IntKind.wrap_i64]; omega
    simp [hwr, withZ]
  have m10 := b9.size
  rintro b - ((h | h) | h)
  · exact .inl h
  · exact .inr (by omega)
  · exact .inr (Nat.le_trans m10 h)
end Go.Proofs.Ytlplomofgbmgaaa

/- The walk of the document's own Append to a zone that is opened for it. -/
namespace Go.Proofs.Ytlplomofgbmgaaa
open Go.RowKit Plan ZnsMath

set_option maxHeartbeats 2000000 in
set_option maxRecDepth 20000 in
theorem refAppend_room_more (F : Nat → Prop) (D : Dev) (a : Option Addr) (len cap i : Nat) (s : ByteArray) (w : World) (hF : ∀ b, F b → b < w.heap.size) (hz : ZonesIn w F a len cap D.zones) (hm : len ≤ 1000000) (hi : i < len) (hc : checkE D = 0) (hs : s.size = 40) (h5 : stateAt D (i : Int) ≠ 5) (h4 : stateAt D (i : Int) ≠ 4) (ho : openB (stateAt D (i : Int)) = false) (hE : roomE D i = 0) (hfull : ((D.zones.getD i empty).sectors.length : Int) + 1 ≠ D.size) :
    Calls Try.prog 39 #[devV D a len cap, .int .i64 (i : Int), .string s] w (AppPost w F len (withZ (roomR D i) i ⟨1, (D.zones.getD i empty).durable, (D.zones.getD i empty).sectors ++ [s]⟩) ((D.zones.getD i empty).sectors.length : Int) 0) := by
  have hck := fun W (h : Below w.heap.size w W) => refCheck05_any D a len cap W (hz.on (Agree.below h)).is
  have hiI : (i : Int) < (len : Int) := by omega
  obtain ⟨x, z, sa, sl, sc, rfl, hzk, hza, hzs⟩ := hz.zone i hi
  have hxb := zone_block hza
  have hsl := hzs.1.length
  have hslm : sl ≤ 1000000 := zone_small hc hzk hsl
  have hsm : ∀ t ∈ z.sectors ++ [s], t.size ≤ maxLen := by
    intro t ht
    rcases List.mem_append.1 ht with h | h
    · exact strs_small hzs.1 t h
    · obtain rfl : t = s := by simpa using h
      unfold maxLen; omega
  have hs1 : ((s.size : Int) != 40) = false := by simp; omega
  rw [hc] at hck
  rw [getD_of hzk, hsl]
  rw [stateAt_of hzk] at ho h5 h4
  have e5 : (z.state == 5) = false := by simp [h5]
  have e4 : (z.state == 4) = false := by simp [h4]
  have hop := fun W => refOpened_any z.state W
  have hzr := ready_at hzk
  rw [show ready D (i : Int) = roomR D i by unfold ready; rw [stateAt_of hzk, if_neg (by rw [ho]; decide), Int.toNat_natCast]] at hzr
  have hrm : ∀ W, Below w.heap.size w W → Calls Try.prog 48 #[devV D (some x) len cap, .int .i64 (i : Int)] W fun e w' => ∃ a' cap', e = .returned (.tuple #[devV (roomR D i) a' len cap', .int .i64 0]) ∧ ZonesIn w' (Plus F W.heap.size) a' len cap' (roomR D i).zones ∧ Below W.heap.size W w' := fun W h => by
    have := refRoom_any F D (some x) len cap i W (fun b hb => Nat.lt_of_lt_of_le (hF b hb) h.size) (hz.on (Agree.below h)) hm hi
    rw [hE] at this
    exact this
  rw [ho] at hop
  have hA : Below w.heap.size w ((w.alloc (devRow D.size D.maxOpen D.maxActive (some x) len cap)).alloc (devRow 0 0 0 none 0 0)) := ((Below.refl _ _).alloc (Nat.le_refl _) _).alloc (by simp) _
  rw [getD_of hzk, hsl] at hfull
  have hfe : (((sl : Int) + 1) == D.size) = false := by simp [hfull]
  unfold AppPost
  generalize roomR D i = D2 at *
  have HK := Lib.hid hck
  have HO := Lib.hid hop
  have HA := Lib.hid hA
  have HZ := Lib.hid hza
  have HM := Lib.hid hrm
  clear hck hop hA hza h5 h4 hs ho hc hfull hrm hE
  obtain ⟨size, op, act, Z⟩ := D
  obtain ⟨st, du, L⟩ := z
  obtain ⟨s2, o2, t2, Z2⟩ := D2
  try simp only at hsm hsl hzr
  go_enter Try.func39, Try.ntmps39
  go_wp2_with (first
    | (go_at_call 14; ((with_reducible refine (HK.out _ HA.out).mono ?_); rintro e w1 ⟨rfl, hb1⟩; have hx1 := row_on hb1 (heap_first2 w _ _) (by simp only [World.size_alloc]; omega); have hr1 := row_on hb1 (heap_second w _ _) (by simp only [World.size_alloc]; omega); obtain ⟨y1, d0, d1, d2, d3⟩ := row4 hx1; have b1 := HA.out.trans (hb1.mono (by simp only [World.size_alloc]; omega)); obtain ⟨zc0, zc1, zc2⟩ := HZ.out.on b1 hxb; have b3 := b1.alloc b1.size (devRow size op act (some x) len cap); obtain ⟨zd0, zd1, zd2⟩ := HZ.out.on b3 hxb; have hx3 := row_al hx1 (devRow size op act (some x) len cap); have hr3 := row_al hr1 (devRow size op act (some x) len cap); have hv3 := heap_alloc_new w1 (devRow size op act (some x) len cap); obtain ⟨y3, p0, p1, p2, p3⟩ := row4 hx3; obtain ⟨v3, l0, l1, l2, l3⟩ := row4 hv3; have n2 := lt_of_block hr1))
    | (go_at_call 44; ((with_reducible refine (HO.out _).mono ?_); rintro e wo ⟨rfl, rfl⟩))
    | (go_at_call 48; ((with_reducible refine (HM.out _ b3).mono ?_); rintro e w2 ⟨a2, c2, rfl, hz2, hb2⟩; have hx2 := row_al (row_on hb2 hx3 (lt_of_block hx3)) (devRow s2 o2 t2 a2 len c2); have hr2 := row_al (row_on hb2 hr3 (lt_of_block hr3)) (devRow s2 o2 t2 a2 len c2); have hv2 := row_al (row_on hb2 hv3 (lt_of_block hv3)) (devRow s2 o2 t2 a2 len c2); have hy2 := heap_alloc_new w2 (devRow s2 o2 t2 a2 len c2); obtain ⟨y2, d0, d1, d2, d3⟩ := row4 hx2; obtain ⟨yy2, k0, k1, k2, k3⟩ := row4 hy2; have b2 := b3.trans (hb2.mono b3.size); have b2' := b2.alloc b2.size (devRow s2 o2 t2 a2 len c2)))
    | ((with_reducible refine Plan.store_lit 24 (.tmp 10) _ w1.heap.size ?_ hv2 ?_ ?_ ?_ ?_ ?_ ?_); rotate_left; (· rfl); (· rfl); (· exact dev_info); (· rfl); (· simp [Value.oneCell']); simp only [Act.put]; have hv3 := setRow_heap _ _ _ #[.int .i64 s2, .int .i64 o2, .int .i64 t2, .slice a2 len c2] _ _ hv2; have hx3 := (setRow_other _ w1.heap.size w.heap.size #[.int .i64 s2, .int .i64 o2, .int .i64 t2, .slice a2 len c2] (by omega)).trans hx2; have hr3 := (setRow_other _ w1.heap.size (w.heap.size + 1) #[.int .i64 s2, .int .i64 o2, .int .i64 t2, .slice a2 len c2] (by omega)).trans hr2; have b3 := below_setRow b2' (show w.heap.size ≤ w1.heap.size from b1.size) #[.int .i64 s2, .int .i64 o2, .int .i64 t2, .slice a2 len c2]; have hz3 := (hz2.on (Agree.below ((Below.refl _ _).alloc (Nat.le_refl _) (devRow s2 o2 t2 a2 len c2)))).on (Agree.row (plus_not hF b1.size (by simp only [World.size_alloc]; omega) : ¬ Plus F (w1.alloc (devRow size op act (some x) len cap)).heap.size w1.heap.size) #[.int .i64 s2, .int .i64 o2, .int .i64 t2, .slice a2 len c2]); generalize (w2.alloc (devRow s2 o2 t2 a2 len c2)).setRow w1.heap.size #[.int .i64 s2, .int .i64 o2, .int .i64 t2, .slice a2 len c2] = w3 at hv3 hx3 hr3 b3 hz3 ⊢; obtain ⟨v3, m0, m1, m2, m3⟩ := row4 hv3; obtain ⟨y3, p0, p1, p2, p3⟩ := row4 hx3; obtain ⟨x3, z3, ta, tl, tc, hx3e, hz3k, ⟨q0, q1, q2⟩, hs3⟩ := hz3.zone i hi; subst hx3e; obtain rfl := Option.some.inj (hzr.symm.trans hz3k); have htl := hs3.1.length; obtain rfl : sl = tl := hsl.symm.trans htl; have nn3 := lt_of_block hv3)
    | (at_builtin; have E0 := strs_empty (w3.alloc (zoneRow 1 du ta sl tc)) (H := w3.heap.size + 1) (by simp only [World.size_alloc]); have c4 := ((Below.refl (w3).heap.size (w3)).alloc (Nat.le_refl _) (zoneRow 1 du ta sl tc)).alloc (by (try simp only [World.size_alloc]); omega) (.cells #[] 9); refine append_list rfl _ _ rfl (w3.heap.size + 1) (.slice (some ⟨w3.heap.size + 1, 0, none⟩) 0 0) rfl E0 ta sl tc L rfl (hs3.1.on c4 (Nat.le_refl _)) hslm (by (try simp only [World.size_alloc]); omega) ?_; intro v5 w5 hown5 hgrow5; have hx5 := row_grow E0 hgrow5 (row_al (row_al hx3 (zoneRow 1 du ta sl tc)) (.cells #[] 9)) (by omega); have hr5 := row_grow E0 hgrow5 (row_al (row_al hr3 (zoneRow 1 du ta sl tc)) (.cells #[] 9)) (by omega); have hv5 := row_grow E0 hgrow5 (row_al (row_al hv3 (zoneRow 1 du ta sl tc)) (.cells #[] 9)) (by omega); have hq3 : (w3.alloc (zoneRow 1 du ta sl tc)).heap[w3.heap.size]? = some (zoneRow 1 du ta sl tc) := (by first | (have := heap_alloc_new (w3) (zoneRow 1 du ta sl tc); rwa [World.size_alloc] at this) | exact heap_alloc_new _ _); have hq5 := row_grow E0 hgrow5 (row_al hq3 (.cells #[] 9)) (by omega); have c5 := below_grow c4 E0 (by (try simp only [World.size_alloc]); omega) (by (try simp only [World.size_alloc]); omega) hgrow5; have own6 := Lib.hid (owns_on hown5 ((Below.refl _ _).alloc (Nat.le_refl _) (.cells #[.string s] 9))); clear E0 hown5 hgrow5)
    | (at_builtin; have m5 := c5.size; refine append_one rfl _ _ rfl (w3.heap.size + 1) v5 sl L rfl own6.out w5.heap.size s rfl (cell_of_row _ _ 0 _ _ _ (heap_alloc_new w5 _)) hslm (by have := lt_of_block hq5; (try simp only [World.size_alloc] at *); omega) ?_; intro v7 w7 hown7 hgrow7; obtain ⟨g7, c7v, rfl, hg7, hl7⟩ := owned_some hown7 (by omega); have hx7 := row_grow own6.out hgrow7 (row_al hx5 (.cells #[.string s] 9)) (by omega); have hr7 := row_grow own6.out hgrow7 (row_al hr5 (.cells #[.string s] 9)) (by omega); have hv7 := row_grow own6.out hgrow7 (row_al hv5 (.cells #[.string s] 9)) (by omega); have hq7 := row_grow own6.out hgrow7 (row_al hq5 (.cells #[.string s] 9)) (by omega); have c7 := below_grow (c5.alloc c5.size (.cells #[.string s] 9)) own6.out (by (try simp only [World.size_alloc]); omega) (by have := c5.size; (try simp only [World.size_alloc] at *); omega) hgrow7; have S7 := Lib.hid (strsIn_own (F := fun b => b = g7) hown7 hsm rfl); obtain ⟨y7, d0, d1, d2, d3⟩ := row4 hx7; obtain ⟨yq7, q0, q1, q2⟩ := row3 hq7; have f7 := row_free hq7 2; clear hown7 hgrow7))
  obtain ⟨n1, hn1⟩ : ∃ n1, n1 = w1.heap.size + 1 := ⟨_, rfl⟩
  have n0 : w.heap.size + 1 < w1.heap.size := n2
  have hx9 := (Below.heap_setCell w7 ⟨w3.heap.size, 2, none⟩ (.slice (some ⟨g7, 0, none⟩) (sl + 1) c7v) w.heap.size (by show w.heap.size ≠ w3.heap.size; omega)).trans hx7
  have hr9 := (Below.heap_setCell w7 ⟨w3.heap.size, 2, none⟩ (.slice (some ⟨g7, 0, none⟩) (sl + 1) c7v) (w.heap.size + 1) (by show w.heap.size + 1 ≠ w3.heap.size; omega)).trans hr7
  have hv9 := (Below.heap_setCell w7 ⟨w3.heap.size, 2, none⟩ (.slice (some ⟨g7, 0, none⟩) (sl + 1) c7v) (w1.heap.size) (by show w1.heap.size ≠ w3.heap.size; omega)).trans hv7
  have hq9 : (w7.setCell ⟨w3.heap.size, 2, none⟩ (.slice (some ⟨g7, 0, none⟩) (sl + 1) c7v)).heap[w3.heap.size]? = some (zoneRow 1 du (some ⟨g7, 0, none⟩) (sl + 1) c7v) := setCell_row hq7 2 (.slice (some ⟨g7, 0, none⟩) (sl + 1) c7v)
  have c9 := c7.setCell (show (w3).heap.size ≤ (⟨w3.heap.size, 2, none⟩ : Addr).block by show (w3).heap.size ≤ w3.heap.size; (try simp only [World.size_alloc]); omega) (.slice (some ⟨g7, 0, none⟩) (sl + 1) c7v)
  have S9 := S7.out.on (Agree.setCell (F := fun b => b = g7) (p := ⟨w3.heap.size, 2, none⟩) (show ¬ w3.heap.size = g7 by omega) (.slice (some ⟨g7, 0, none⟩) (sl + 1) c7v))
  generalize w7.setCell ⟨w3.heap.size, 2, none⟩ (.slice (some ⟨g7, 0, none⟩) (sl + 1) c7v) = w9 at hx9 hr9 hv9 hq9 c9 S9 ⊢
  clear S7 hx7 hr7 hv7 hq7 q0 q1 q2 f7 d0 d1 d2 d3
  have hz3 : ZonesIn w3 (Plus F n1) (some x3) len c2 Z2 := hz3.mono (fun b _ h => h.imp id (fun h => by simp only [World.size_alloc] at h; omega))

  refine Plan.start (fun W => DevAt W (w1.heap.size) s2 o2 t2 (some x3) len c2 ∧ W.cell? ⟨w3.heap.size, 0, none⟩ = some (.int .i64 1) ∧ W.cell? ⟨w3.heap.size, 1, none⟩ = some (.int .i64 du) ∧ W.cell? ⟨w3.heap.size, 2, none⟩ = some (.slice (some ⟨g7, 0, none⟩) (sl + 1) c7v)) [(0, true), (1, true), (2, true), (4, true), (5, true), (6, true), (7, true), (3, false), (8, false), (9, true), (10, true)] (by kernel_rfl) (by kernel_rfl) (by kernel_rfl) (by kernel_rfl) ⟨(row4 hv9).2, (row3 hq9).2⟩ ?_
  simp only [List.map_cons, List.map_nil, List.getElem?_toArray, List.getElem?_cons_zero, List.getElem?_cons_succ]
  repeat (first | (refine Plan.take ?_ (by rfl) ?_ ?_; rotate_left; (· rintro w9 ⟨⟨e0, e1, e2, e3⟩, z0, z1, z2⟩; go_simp; (try rw [if_neg (by omega)]); all_goals (with_reducible rfl)); simp only [Act.put, List.setIfInBounds_toArray, List.set_cons_zero, List.set_cons_succ]) | (refine Plan.pass (by rfl) ?_; simp only [Act.put, List.setIfInBounds_toArray, List.set_cons_zero, List.set_cons_succ]))
  have b9 := b3.trans (c9.mono b3.size)
  have hz9 := hz3.on (Agree.below c9.drew)
  have m9 := c9.size
  have hs9 : StrsIn w9.drew (Plus F n1) (some ⟨g7, 0, none⟩) (sl + 1) c7v (L ++ [s]) := StrsIn.mono (F := fun b => b = g7) (S9.on (Agree.below (Below.refl _ _).drew)) (fun b _ hb => .inr (by (try simp only [World.size_alloc] at *); omega))
  refine Plan.call (by rfl) 47 _ ?_ (with_agg (Plus F n1) ⟨s2, o2, t2, Z2⟩ (some x3) len c2 i 1 du (L ++ [s]) (some ⟨g7, 0, none⟩) (sl + 1) c7v w9.drew hz9 hi hm hs9) ?_
  · go_simp
  rintro e w10 ⟨a4, c4, rfl, hz10, hb10⟩
  have hb10 := (Below.refl w9.heap.size w9).drew.trans hb10
  have hr10 := row_on hb10 hr9 (lt_of_block hr9)
  have hv10 := row_on hb10 hv9 (lt_of_block hv9)
  have hq10 := row_on hb10 hq9 (lt_of_block hq9)
  have b10 := b9.trans (hb10.mono b9.size)
  refine ⟨_, rfl, ⟨(row4 hv10).2, (row3 hq10).2⟩, ?_⟩
  simp only [Act.put, List.setIfInBounds_toArray, List.set_cons_zero, List.set_cons_succ]
  have b11 := below_setRow b10 (show w.heap.size ≤ w.heap.size + 1 by omega) #[.int .i64 s2, .int .i64 o2, .int .i64 t2, .slice a4 len c4]
  have hv11 := (setRow_other w10 (w.heap.size + 1) (w1.heap.size) #[.int .i64 s2, .int .i64 o2, .int .i64 t2, .slice a4 len c4] (by omega)).trans hv10
  have hq11 := (setRow_other w10 (w.heap.size + 1) (w3.heap.size) #[.int .i64 s2, .int .i64 o2, .int .i64 t2, .slice a4 len c4] (by omega)).trans hq10
  have hlt9 := lt_of_block hr9
  refine Plan.store (by rfl) 24 _ _ rfl (w.heap.size + 1) #[.int .i64 s2, .int .i64 o2, .int .i64 t2, .slice a4 len c4] (by rfl) (by rfl) 24 _ hr10 dev_info rfl (by simp [Value.oneCell']) ⟨(row4 hv11).2, (row3 hq11).2⟩ ?_
  simp only [Act.put]
  repeat (first | (refine Plan.take ?_ (by rfl) ?_ ?_; rotate_left; (· rintro w9 ⟨⟨e0, e1, e2, e3⟩, z0, z1, z2⟩; go_simp; (try rw [if_neg (by omega)]); all_goals (with_reducible rfl)); simp only [Act.put, List.setIfInBounds_toArray, List.set_cons_zero, List.set_cons_succ]) | (refine Plan.pass (by rfl) ?_; simp only [Act.put, List.setIfInBounds_toArray, List.set_cons_zero, List.set_cons_succ]))
  refine Plan.ends ?_
  go_wp2_with fail
  have hz11 := hz10.on (Agree.row (by
    rintro (h | h)
    · exact plus_not hF (by omega) (by omega) h
    · have h : w9.heap.size ≤ w.heap.size + 1 := h
      omega : ¬ Plus (Plus F n1) w9.drew.heap.size (w.heap.size + 1)) #[.int .i64 s2, .int .i64 o2, .int .i64 t2, .slice a4 len c4])
  refine bodyPost_ret (results_cell_tmp2 (p := 6) (q := 7) (r := 8) rfl _ _ _ _ _ _ _ rfl (setRow_heap _ _ _ _ _ _ hr10) Try.underlying24 rfl dev_info) rfl ⟨a4, c4, ?_, hz11.mono ?_, b11⟩
  · have hwr : IntKind.i64.wrap (sl : Int) = (sl : Int) := by rw [IntKind.wrap_i64]; omega
    simp [hwr, withZ]
  have m10 := b9.size
  rintro b - ((h | h) | h)
  · exact .inl h
  · exact .inr (by omega)
  · exact .inr (Nat.le_trans m10 h)
set_option maxHeartbeats 2000000 in
set_option maxRecDepth 20000 in
theorem refAppend_room_full (F : Nat → Prop) (D : Dev) (a : Option Addr) (len cap i : Nat) (s : ByteArray) (w : World) (hF : ∀ b, F b → b < w.heap.size) (hz : ZonesIn w F a len cap D.zones) (hm : len ≤ 1000000) (hi : i < len) (hc : checkE D = 0) (hs : s.size = 40) (h5 : stateAt D (i : Int) ≠ 5) (h4 : stateAt D (i : Int) ≠ 4) (ho : openB (stateAt D (i : Int)) = false) (hE : roomE D i = 0) (hfull : ((D.zones.getD i empty).sectors.length : Int) + 1 = D.size) :
    Calls Try.prog 39 #[devV D a len cap, .int .i64 (i : Int), .string s] w (AppPost w F len (withZ (roomR D i) i ⟨4, D.size, (D.zones.getD i empty).sectors ++ [s]⟩) ((D.zones.getD i empty).sectors.length : Int) 0) := by
  have hck := fun W (h : Below w.heap.size w W) => refCheck05_any D a len cap W (hz.on (Agree.below h)).is
  have hiI : (i : Int) < (len : Int) := by omega
  obtain ⟨x, z, sa, sl, sc, rfl, hzk, hza, hzs⟩ := hz.zone i hi
  have hxb := zone_block hza
  have hsl := hzs.1.length
  have hslm : sl ≤ 1000000 := zone_small hc hzk hsl
  have hsm : ∀ t ∈ z.sectors ++ [s], t.size ≤ maxLen := by
    intro t ht
    rcases List.mem_append.1 ht with h | h
    · exact strs_small hzs.1 t h
    · obtain rfl : t = s := by simpa using h
      unfold maxLen; omega
  have hs1 : ((s.size : Int) != 40) = false := by simp; omega
  rw [hc] at hck
  rw [getD_of hzk, hsl]
  rw [stateAt_of hzk] at ho h5 h4
  have e5 : (z.state == 5) = false := by simp [h5]
  have e4 : (z.state == 4) = false := by simp [h4]
  have hop := fun W => refOpened_any z.state W
  have hzr := ready_at hzk
  rw [show ready D (i : Int) = roomR D i by unfold ready; rw [stateAt_of hzk, if_neg (by rw [ho]; decide), Int.toNat_natCast]] at hzr
  have hrm : ∀ W, Below w.heap.size w W → Calls Try.prog 48 #[devV D (some x) len cap, .int .i64 (i : Int)] W fun e w' => ∃ a' cap', e = .returned (.tuple #[devV (roomR D i) a' len cap', .int .i64 0]) ∧ ZonesIn w' (Plus F W.heap.size) a' len cap' (roomR D i).zones ∧ Below W.heap.size W w' := fun W h => by
    have := refRoom_any F D (some x) len cap i W (fun b hb => Nat.lt_of_lt_of_le (hF b hb) h.size) (hz.on (Agree.below h)) hm hi
    rw [hE] at this
    exact this
  rw [ho] at hop
  have hA : Below w.heap.size w ((w.alloc (devRow D.size D.maxOpen D.maxActive (some x) len cap)).alloc (devRow 0 0 0 none 0 0)) := ((Below.refl _ _).alloc (Nat.le_refl _) _).alloc (by simp) _
  rw [getD_of hzk, hsl] at hfull
  have hfe : (((sl : Int) + 1) == D.size) = true := by simp [hfull]
  unfold AppPost
  generalize roomR D i = D2 at *
  have HK := Lib.hid hck
  have HO := Lib.hid hop
  have HA := Lib.hid hA
  have HZ := Lib.hid hza
  have HM := Lib.hid hrm
  clear hck hop hA hza h5 h4 hs ho hc hfull hrm hE
  obtain ⟨size, op, act, Z⟩ := D
  obtain ⟨st, du, L⟩ := z
  obtain ⟨s2, o2, t2, Z2⟩ := D2
  try simp only at hsm hsl hzr
  go_enter Try.func39, Try.ntmps39
  go_wp2_with (first
    | (go_at_call 14; ((with_reducible refine (HK.out _ HA.out).mono ?_); rintro e w1 ⟨rfl, hb1⟩; have hx1 := row_on hb1 (heap_first2 w _ _) (by simp only [World.size_alloc]; omega); have hr1 := row_on hb1 (heap_second w _ _) (by simp only [World.size_alloc]; omega); obtain ⟨y1, d0, d1, d2, d3⟩ := row4 hx1; have b1 := HA.out.trans (hb1.mono (by simp only [World.size_alloc]; omega)); obtain ⟨zc0, zc1, zc2⟩ := HZ.out.on b1 hxb; have b3 := b1.alloc b1.size (devRow size op act (some x) len cap); obtain ⟨zd0, zd1, zd2⟩ := HZ.out.on b3 hxb; have hx3 := row_al hx1 (devRow size op act (some x) len cap); have hr3 := row_al hr1 (devRow size op act (some x) len cap); have hv3 := heap_alloc_new w1 (devRow size op act (some x) len cap); obtain ⟨y3, p0, p1, p2, p3⟩ := row4 hx3; obtain ⟨v3, l0, l1, l2, l3⟩ := row4 hv3; have n2 := lt_of_block hr1))
    | (go_at_call 44; ((with_reducible refine (HO.out _).mono ?_); rintro e wo ⟨rfl, rfl⟩))
    | (go_at_call 48; ((with_reducible refine (HM.out _ b3).mono ?_); rintro e w2 ⟨a2, c2, rfl, hz2, hb2⟩; have hx2 := row_al (row_on hb2 hx3 (lt_of_block hx3)) (devRow s2 o2 t2 a2 len c2); have hr2 := row_al (row_on hb2 hr3 (lt_of_block hr3)) (devRow s2 o2 t2 a2 len c2); have hv2 := row_al (row_on hb2 hv3 (lt_of_block hv3)) (devRow s2 o2 t2 a2 len c2); have hy2 := heap_alloc_new w2 (devRow s2 o2 t2 a2 len c2); obtain ⟨y2, d0, d1, d2, d3⟩ := row4 hx2; obtain ⟨yy2, k0, k1, k2, k3⟩ := row4 hy2; have b2 := b3.trans (hb2.mono b3.size); have b2' := b2.alloc b2.size (devRow s2 o2 t2 a2 len c2)))
    | ((with_reducible refine Plan.store_lit 24 (.tmp 10) _ w1.heap.size ?_ hv2 ?_ ?_ ?_ ?_ ?_ ?_); rotate_left; (· rfl); (· rfl); (· exact dev_info); (· rfl); (· simp [Value.oneCell']); simp only [Act.put]; have hv3 := setRow_heap _ _ _ #[.int .i64 s2, .int .i64 o2, .int .i64 t2, .slice a2 len c2] _ _ hv2; have hx3 := (setRow_other _ w1.heap.size w.heap.size #[.int .i64 s2, .int .i64 o2, .int .i64 t2, .slice a2 len c2] (by omega)).trans hx2; have hr3 := (setRow_other _ w1.heap.size (w.heap.size + 1) #[.int .i64 s2, .int .i64 o2, .int .i64 t2, .slice a2 len c2] (by omega)).trans hr2; have b3 := below_setRow b2' (show w.heap.size ≤ w1.heap.size from b1.size) #[.int .i64 s2, .int .i64 o2, .int .i64 t2, .slice a2 len c2]; have hz3 := (hz2.on (Agree.below ((Below.refl _ _).alloc (Nat.le_refl _) (devRow s2 o2 t2 a2 len c2)))).on (Agree.row (plus_not hF b1.size (by simp only [World.size_alloc]; omega) : ¬ Plus F (w1.alloc (devRow size op act (some x) len cap)).heap.size w1.heap.size) #[.int .i64 s2, .int .i64 o2, .int .i64 t2, .slice a2 len c2]); generalize (w2.alloc (devRow s2 o2 t2 a2 len c2)).setRow w1.heap.size #[.int .i64 s2, .int .i64 o2, .int .i64 t2, .slice a2 len c2] = w3 at hv3 hx3 hr3 b3 hz3 ⊢; obtain ⟨v3, m0, m1, m2, m3⟩ := row4 hv3; obtain ⟨y3, p0, p1, p2, p3⟩ := row4 hx3; obtain ⟨x3, z3, ta, tl, tc, hx3e, hz3k, ⟨q0, q1, q2⟩, hs3⟩ := hz3.zone i hi; subst hx3e; obtain rfl := Option.some.inj (hzr.symm.trans hz3k); have htl := hs3.1.length; obtain rfl : sl = tl := hsl.symm.trans htl; have nn3 := lt_of_block hv3)
    | (at_builtin; have E0 := strs_empty (w3.alloc (zoneRow 1 du ta sl tc)) (H := w3.heap.size + 1) (by simp only [World.size_alloc]); have c4 := ((Below.refl (w3).heap.size (w3)).alloc (Nat.le_refl _) (zoneRow 1 du ta sl tc)).alloc (by (try simp only [World.size_alloc]); omega) (.cells #[] 9); refine append_list rfl _ _ rfl (w3.heap.size + 1) (.slice (some ⟨w3.heap.size + 1, 0, none⟩) 0 0) rfl E0 ta sl tc L rfl (hs3.1.on c4 (Nat.le_refl _)) hslm (by (try simp only [World.size_alloc]); omega) ?_; intro v5 w5 hown5 hgrow5; have hx5 := row_grow E0 hgrow5 (row_al (row_al hx3 (zoneRow 1 du ta sl tc)) (.cells #[] 9)) (by omega); have hr5 := row_grow E0 hgrow5 (row_al (row_al hr3 (zoneRow 1 du ta sl tc)) (.cells #[] 9)) (by omega); have hv5 := row_grow E0 hgrow5 (row_al (row_al hv3 (zoneRow 1 du ta sl tc)) (.cells #[] 9)) (by omega); have hq3 : (w3.alloc (zoneRow 1 du ta sl tc)).heap[w3.heap.size]? = some (zoneRow 1 du ta sl tc) := (by first | (have := heap_alloc_new (w3) (zoneRow 1 du ta sl tc); rwa [World.size_alloc] at this) | exact heap_alloc_new _ _); have hq5 := row_grow E0 hgrow5 (row_al hq3 (.cells #[] 9)) (by omega); have c5 := below_grow c4 E0 (by (try simp only [World.size_alloc]); omega) (by (try simp only [World.size_alloc]); omega) hgrow5; have own6 := Lib.hid (owns_on hown5 ((Below.refl _ _).alloc (Nat.le_refl _) (.cells #[.string s] 9))); clear E0 hown5 hgrow5)
    | (at_builtin; have m5 := c5.size; refine append_one rfl _ _ rfl (w3.heap.size + 1) v5 sl L rfl own6.out w5.heap.size s rfl (cell_of_row _ _ 0 _ _ _ (heap_alloc_new w5 _)) hslm (by have := lt_of_block hq5; (try simp only [World.size_alloc] at *); omega) ?_; intro v7 w7 hown7 hgrow7; obtain ⟨g7, c7v, rfl, hg7, hl7⟩ := owned_some hown7 (by omega); have hx7 := row_grow own6.out hgrow7 (row_al hx5 (.cells #[.string s] 9)) (by omega); have hr7 := row_grow own6.out hgrow7 (row_al hr5 (.cells #[.string s] 9)) (by omega); have hv7 := row_grow own6.out hgrow7 (row_al hv5 (.cells #[.string s] 9)) (by omega); have hq7 := row_grow own6.out hgrow7 (row_al hq5 (.cells #[.string s] 9)) (by omega); have c7 := below_grow (c5.alloc c5.size (.cells #[.string s] 9)) own6.out (by (try simp only [World.size_alloc]); omega) (by have := c5.size; (try simp only [World.size_alloc] at *); omega) hgrow7; have S7 := Lib.hid (strsIn_own (F := fun b => b = g7) hown7 hsm rfl); obtain ⟨y7, d0, d1, d2, d3⟩ := row4 hx7; obtain ⟨yq7, q0, q1, q2⟩ := row3 hq7; have f7 := row_free hq7 2; clear hown7 hgrow7))
  obtain ⟨n1, hn1⟩ : ∃ n1, n1 = w1.heap.size + 1 := ⟨_, rfl⟩
  have n0 : w.heap.size + 1 < w1.heap.size := n2
  have hx9 := (Below.heap_setCell w7 ⟨w3.heap.size, 2, none⟩ (.slice (some ⟨g7, 0, none⟩) (sl + 1) c7v) w.heap.size (by show w.heap.size ≠ w3.heap.size; omega)).trans hx7
  have hr9 := (Below.heap_setCell w7 ⟨w3.heap.size, 2, none⟩ (.slice (some ⟨g7, 0, none⟩) (sl + 1) c7v) (w.heap.size + 1) (by show w.heap.size + 1 ≠ w3.heap.size; omega)).trans hr7
  have hv9 := (Below.heap_setCell w7 ⟨w3.heap.size, 2, none⟩ (.slice (some ⟨g7, 0, none⟩) (sl + 1) c7v) (w1.heap.size) (by show w1.heap.size ≠ w3.heap.size; omega)).trans hv7
  have hq9 : (w7.setCell ⟨w3.heap.size, 2, none⟩ (.slice (some ⟨g7, 0, none⟩) (sl + 1) c7v)).heap[w3.heap.size]? = some (zoneRow 1 du (some ⟨g7, 0, none⟩) (sl + 1) c7v) := setCell_row hq7 2 (.slice (some ⟨g7, 0, none⟩) (sl + 1) c7v)
  have c9 := c7.setCell (show (w3).heap.size ≤ (⟨w3.heap.size, 2, none⟩ : Addr).block by show (w3).heap.size ≤ w3.heap.size; (try simp only [World.size_alloc]); omega) (.slice (some ⟨g7, 0, none⟩) (sl + 1) c7v)
  have S9 := S7.out.on (Agree.setCell (F := fun b => b = g7) (p := ⟨w3.heap.size, 2, none⟩) (show ¬ w3.heap.size = g7 by omega) (.slice (some ⟨g7, 0, none⟩) (sl + 1) c7v))
  generalize w7.setCell ⟨w3.heap.size, 2, none⟩ (.slice (some ⟨g7, 0, none⟩) (sl + 1) c7v) = w9 at hx9 hr9 hv9 hq9 c9 S9 ⊢
  clear S7 hx7 hr7 hv7 hq7 q0 q1 q2 f7 d0 d1 d2 d3
  have hz3 : ZonesIn w3 (Plus F n1) (some x3) len c2 Z2 := hz3.mono (fun b _ h => h.imp id (fun h => by simp only [World.size_alloc] at h; omega))

  refine Plan.start (fun W => DevAt W w.heap.size size op act (some x) len cap) [(0, true), (1, true), (2, true), (3, false), (4, true), (5, false)] (by kernel_rfl) (by kernel_rfl) (by kernel_rfl) (by kernel_rfl) (row4 hx9).2 ?_
  simp only [List.map_cons, List.map_nil, List.getElem?_toArray, List.getElem?_cons_zero, List.getElem?_cons_succ]
  repeat (first | (refine Plan.take ?_ (by rfl) ?_ ?_; rotate_left; (· rintro w9 ⟨e0, e1, e2, e3⟩; go_simp; (try rw [if_neg (by omega)]); all_goals (with_reducible rfl)); simp only [Act.put, List.setIfInBounds_toArray, List.set_cons_zero, List.set_cons_succ]) | (refine Plan.pass (by rfl) ?_; simp only [Act.put, List.setIfInBounds_toArray, List.set_cons_zero, List.set_cons_succ]))
  have k0 : w9.drew.cell? ⟨w3.heap.size, 0, none⟩ = some (.int .i64 1) := (row3 hq9).2.1
  have f0 : w9.drew.frozen? ⟨w3.heap.size, 0, none⟩ = false := row_free hq9 0
  have hx10 : (w9.drew.setCell ⟨w3.heap.size, 0, none⟩ (.int .i64 4)).heap[w.heap.size]? = _ := (Below.heap_setCell w9.drew ⟨w3.heap.size, 0, none⟩ (.int .i64 4) w.heap.size (by show w.heap.size ≠ w3.heap.size; omega)).trans hx9
  have hr10 : (w9.drew.setCell ⟨w3.heap.size, 0, none⟩ (.int .i64 4)).heap[w.heap.size + 1]? = _ := (Below.heap_setCell w9.drew ⟨w3.heap.size, 0, none⟩ (.int .i64 4) (w.heap.size + 1) (by show w.heap.size + 1 ≠ w3.heap.size; omega)).trans hr9
  have hv10 : (w9.drew.setCell ⟨w3.heap.size, 0, none⟩ (.int .i64 4)).heap[w1.heap.size]? = _ := (Below.heap_setCell w9.drew ⟨w3.heap.size, 0, none⟩ (.int .i64 4) (w1.heap.size) (by show w1.heap.size ≠ w3.heap.size; omega)).trans hv9
  have hq10 : (w9.drew.setCell ⟨w3.heap.size, 0, none⟩ (.int .i64 4)).heap[w3.heap.size]? = some (zoneRow 4 du (some ⟨g7, 0, none⟩) (sl + 1) c7v) := setCell_row (w := w9.drew) hq9 0 (.int .i64 4)
  have c10 := c9.drew.setCell (show (w3).heap.size ≤ (⟨w3.heap.size, 0, none⟩ : Addr).block by show (w3).heap.size ≤ w3.heap.size; (try simp only [World.size_alloc]); omega) (.int .i64 4)
  have S10 := (S9.on (Agree.below (Below.refl _ _).drew)).on (Agree.setCell (F := fun b => b = g7) (p := ⟨w3.heap.size, 0, none⟩) (show ¬ w3.heap.size = g7 by omega) (.int .i64 4))
  refine Plan.carry (by rfl) (wp_store_int 3 _ _ rfl (w3.heap.size) 0 .i64 4 (by rfl) (by rfl) ⟨_, k0⟩ f0 int_info1 ⟨(row4 hx10).2, ?_⟩)
  clear k0 f0
  generalize w9.drew.setCell ⟨w3.heap.size, 0, none⟩ (.int .i64 4) = w10 at hx10 hr10 hv10 hq10 c10 S10 ⊢
  simp only [Act.put]
  repeat (first | (refine Plan.take ?_ (by rfl) ?_ ?_; rotate_left; (· rintro w9 ⟨e0, e1, e2, e3⟩; go_simp; (try rw [if_neg (by omega)]); all_goals (with_reducible rfl)); simp only [Act.put, List.setIfInBounds_toArray, List.set_cons_zero, List.set_cons_succ]) | (refine Plan.pass (by rfl) ?_; simp only [Act.put, List.setIfInBounds_toArray, List.set_cons_zero, List.set_cons_succ]))
  have k0 : w10.cell? ⟨w3.heap.size, 1, none⟩ = some (.int .i64 du) := (row3 hq10).2.2.1
  have f0 : w10.frozen? ⟨w3.heap.size, 1, none⟩ = false := row_free hq10 1
  have hx11 := (Below.heap_setCell w10 ⟨w3.heap.size, 1, none⟩ (.int .i64 size) w.heap.size (by show w.heap.size ≠ w3.heap.size; omega)).trans hx10
  have hr11 := (Below.heap_setCell w10 ⟨w3.heap.size, 1, none⟩ (.int .i64 size) (w.heap.size + 1) (by show w.heap.size + 1 ≠ w3.heap.size; omega)).trans hr10
  have hv11 := (Below.heap_setCell w10 ⟨w3.heap.size, 1, none⟩ (.int .i64 size) (w1.heap.size) (by show w1.heap.size ≠ w3.heap.size; omega)).trans hv10
  have hq11 : (w10.setCell ⟨w3.heap.size, 1, none⟩ (.int .i64 size)).heap[w3.heap.size]? = some (zoneRow 4 size (some ⟨g7, 0, none⟩) (sl + 1) c7v) := setCell_row hq10 1 (.int .i64 size)
  have c11 := c10.setCell (show (w3).heap.size ≤ (⟨w3.heap.size, 1, none⟩ : Addr).block by show (w3).heap.size ≤ w3.heap.size; (try simp only [World.size_alloc]); omega) (.int .i64 size)
  have S11 := S10.on (Agree.setCell (F := fun b => b = g7) (p := ⟨w3.heap.size, 1, none⟩) (show ¬ w3.heap.size = g7 by omega) (.int .i64 size))
  refine Plan.carry (by rfl) (wp_store_int 3 _ _ rfl (w3.heap.size) 1 .i64 size (by rfl) (by rfl) ⟨_, k0⟩ f0 int_info1 ⟨(row4 hx11).2, ?_⟩)
  clear k0 f0
  generalize w10.setCell ⟨w3.heap.size, 1, none⟩ (.int .i64 size) = w11 at hx11 hr11 hv11 hq11 c11 S11 ⊢
  simp only [Act.put]
  refine Plan.ends ?_
  clear hx9 hr9 hv9 hq9 c9 S9 hx10 hr10 hv10 hq10 c10 S10
  obtain ⟨w9, rfl⟩ : ∃ w9, w9 = w11 := ⟨_, rfl⟩
  have hx9 := hx11
  have hr9 := hr11
  have hv9 := hv11
  have hq9 := hq11
  have c9 := c11
  have S9 := S11
  clear hx11 hr11 hv11 hq11 c11 S11
  go_wp2_with fail
  refine Plan.start (fun W => DevAt W (w1.heap.size) s2 o2 t2 (some x3) len c2 ∧ W.cell? ⟨w3.heap.size, 0, none⟩ = some (.int .i64 4) ∧ W.cell? ⟨w3.heap.size, 1, none⟩ = some (.int .i64 size) ∧ W.cell? ⟨w3.heap.size, 2, none⟩ = some (.slice (some ⟨g7, 0, none⟩) (sl + 1) c7v)) [(0, true), (1, true), (2, true), (4, true), (5, true), (6, true), (7, true), (3, false), (8, false), (9, true), (10, true)] (by kernel_rfl) (by kernel_rfl) (by kernel_rfl) (by kernel_rfl) ⟨(row4 hv9).2, (row3 hq9).2⟩ ?_
  simp only [List.map_cons, List.map_nil, List.getElem?_toArray, List.getElem?_cons_zero, List.getElem?_cons_succ]
  repeat (first | (refine Plan.take ?_ (by rfl) ?_ ?_; rotate_left; (· rintro w9 ⟨⟨e0, e1, e2, e3⟩, z0, z1, z2⟩; go_simp; (try rw [if_neg (by omega)]); all_goals (with_reducible rfl)); simp only [Act.put, List.setIfInBounds_toArray, List.set_cons_zero, List.set_cons_succ]) | (refine Plan.pass (by rfl) ?_; simp only [Act.put, List.setIfInBounds_toArray, List.set_cons_zero, List.set_cons_succ]))
  have b9 := b3.trans (c9.mono b3.size)
  have hz9 := hz3.on (Agree.below c9.drew)
  have m9 := c9.size
  have hs9 : StrsIn w9.drew (Plus F n1) (some ⟨g7, 0, none⟩) (sl + 1) c7v (L ++ [s]) := StrsIn.mono (F := fun b => b = g7) (S9.on (Agree.below (Below.refl _ _).drew)) (fun b _ hb => .inr (by (try simp only [World.size_alloc] at *); omega))
  refine Plan.call (by rfl) 47 _ ?_ (with_agg (Plus F n1) ⟨s2, o2, t2, Z2⟩ (some x3) len c2 i 4 size (L ++ [s]) (some ⟨g7, 0, none⟩) (sl + 1) c7v w9.drew hz9 hi hm hs9) ?_
  · go_simp
  rintro e w10 ⟨a4, c4, rfl, hz10, hb10⟩
  have hb10 := (Below.refl w9.heap.size w9).drew.trans hb10
  have hr10 := row_on hb10 hr9 (lt_of_block hr9)
  have hv10 := row_on hb10 hv9 (lt_of_block hv9)
  have hq10 := row_on hb10 hq9 (lt_of_block hq9)
  have b10 := b9.trans (hb10.mono b9.size)
  refine ⟨_, rfl, ⟨(row4 hv10).2, (row3 hq10).2⟩, ?_⟩
  simp only [Act.put, List.setIfInBounds_toArray, List.set_cons_zero, List.set_cons_succ]
  have b11 := below_setRow b10 (show w.heap.size ≤ w.heap.size + 1 by omega) #[.int .i64 s2, .int .i64 o2, .int .i64 t2, .slice a4 len c4]
  have hv11 := (setRow_other w10 (w.heap.size + 1) (w1.heap.size) #[.int .i64 s2, .int .i64 o2, .int .i64 t2, .slice a4 len c4] (by omega)).trans hv10
  have hq11 := (setRow_other w10 (w.heap.size + 1) (w3.heap.size) #[.int .i64 s2, .int .i64 o2, .int .i64 t2, .slice a4 len c4] (by omega)).trans hq10
  have hlt9 := lt_of_block hr9
  refine Plan.store (by rfl) 24 _ _ rfl (w.heap.size + 1) #[.int .i64 s2, .int .i64 o2, .int .i64 t2, .slice a4 len c4] (by rfl) (by rfl) 24 _ hr10 dev_info rfl (by simp [Value.oneCell']) ⟨(row4 hv11).2, (row3 hq11).2⟩ ?_
  simp only [Act.put]
  repeat (first | (refine Plan.take ?_ (by rfl) ?_ ?_; rotate_left; (· rintro w9 ⟨⟨e0, e1, e2, e3⟩, z0, z1, z2⟩; go_simp; (try rw [if_neg (by omega)]); all_goals (with_reducible rfl)); simp only [Act.put, List.setIfInBounds_toArray, List.set_cons_zero, List.set_cons_succ]) | (refine Plan.pass (by rfl) ?_; simp only [Act.put, List.setIfInBounds_toArray, List.set_cons_zero, List.set_cons_succ]))
  refine Plan.ends ?_
  go_wp2_with fail
  have hz11 := hz10.on (Agree.row (by
    rintro (h | h)
    · exact plus_not hF (by omega) (by omega) h
    · have h : w9.heap.size ≤ w.heap.size + 1 := h
      omega : ¬ Plus (Plus F n1) w9.drew.heap.size (w.heap.size + 1)) #[.int .i64 s2, .int .i64 o2, .int .i64 t2, .slice a4 len c4])
  refine bodyPost_ret (results_cell_tmp2 (p := 6) (q := 7) (r := 8) rfl _ _ _ _ _ _ _ rfl (setRow_heap _ _ _ _ _ _ hr10) Try.underlying24 rfl dev_info) rfl ⟨a4, c4, ?_, hz11.mono ?_, b11⟩
  · have hwr : IntKind.i64.wrap (sl : Int) = (sl : Int) := by rw [IntKind.wrap_i64]; omega
    simp [hwr, withZ]
  have m10 := b9.size
  rintro b - ((h | h) | h)
  · exact .inl h
  · exact .inr (by omega)
  · exact .inr (Nat.le_trans m10 h)
end Go.Proofs.Ytlplomofgbmgaaa

/- The document's own Append, whole. -/
namespace Go.Proofs.Ytlplomofgbmgaaa
open Go.RowKit Plan ZnsMath

set_option maxHeartbeats 2000000 in
set_option maxRecDepth 20000 in
theorem refAppend_none (F : Nat → Prop) (D : Dev) (a : Option Addr) (len cap i : Nat) (s : ByteArray) (w : World) (hF : ∀ b, F b → b < w.heap.size) (hz : ZonesIn w F a len cap D.zones) (hm : len ≤ 1000000) (hi : i < len) (hc : checkE D = 0) (hs : s.size = 40) (h5 : stateAt D (i : Int) ≠ 5) (h4 : stateAt D (i : Int) ≠ 4) (ho : openB (stateAt D (i : Int)) = false) (hE : roomE D i ≠ 0) :
    Calls Try.prog 39 #[devV D a len cap, .int .i64 (i : Int), .string s] w (AppPost w F len D 0 (roomE D i)) := by
  have hck := fun W (h : Below w.heap.size w W) => refCheck05_any D a len cap W (hz.on (Agree.below h)).is
  have hiI : (i : Int) < (len : Int) := by omega
  obtain ⟨x, z, sa, sl, sc, rfl, hzk, hza, hzs⟩ := hz.zone i hi
  have hxb := zone_block hza
  have hsl := hzs.1.length
  have hslm : sl ≤ 1000000 := zone_small hc hzk hsl
  have hsm : ∀ t ∈ z.sectors ++ [s], t.size ≤ maxLen := by
    intro t ht
    rcases List.mem_append.1 ht with h | h
    · exact strs_small hzs.1 t h
    · obtain rfl : t = s := by simpa using h
      unfold maxLen; omega
  have hs1 : ((s.size : Int) != 40) = false := by simp; omega
  rw [hc] at hck
  rw [stateAt_of hzk] at ho h5 h4
  have e5 : (z.state == 5) = false := by simp [h5]
  have e4 : (z.state == 4) = false := by simp [h4]
  have hop := fun W => refOpened_any z.state W
  have hrm := fun W (h : Below w.heap.size w W) => refRoom_any F D (some x) len cap i W (fun b hb => Nat.lt_of_lt_of_le (hF b hb) h.size) (hz.on (Agree.below h)) hm hi
  unfold DevPost at hrm
  rw [ho] at hop
  have hA : Below w.heap.size w ((w.alloc (devRow D.size D.maxOpen D.maxActive (some x) len cap)).alloc (devRow 0 0 0 none 0 0)) := ((Below.refl _ _).alloc (Nat.le_refl _) _).alloc (by simp) _
  unfold AppPost
  generalize roomR D i = D2 at *
  generalize roomE D i = E at *
  have hE1 : (E != 0) = true := by simp [hE]
  have HK := Lib.hid hck
  have HO := Lib.hid hop
  have HA := Lib.hid hA
  have HZ := Lib.hid hza
  have HM := Lib.hid hrm
  clear hck hop hA hza h5 h4 hs ho hc hrm hE hsm
  obtain ⟨size, op, act, Z⟩ := D
  obtain ⟨st, du, L⟩ := z
  obtain ⟨s2, o2, t2, Z2⟩ := D2
  go_enter Try.func39, Try.ntmps39
  go_wp2_with (first
    | (go_at_call 14; ((with_reducible refine (HK.out _ HA.out).mono ?_); rintro e w1 ⟨rfl, hb1⟩; have hx1 := row_on hb1 (heap_first2 w _ _) (by simp only [World.size_alloc]; omega); have hr1 := row_on hb1 (heap_second w _ _) (by simp only [World.size_alloc]; omega); obtain ⟨y1, d0, d1, d2, d3⟩ := row4 hx1; have b1 := HA.out.trans (hb1.mono (by simp only [World.size_alloc]; omega)); obtain ⟨zc0, zc1, zc2⟩ := HZ.out.on b1 hxb; have b3 := b1.alloc b1.size (devRow size op act (some x) len cap); obtain ⟨zd0, zd1, zd2⟩ := HZ.out.on b3 hxb; have hx3 := row_al hx1 (devRow size op act (some x) len cap); have hr3 := row_al hr1 (devRow size op act (some x) len cap); have hv3 := heap_alloc_new w1 (devRow size op act (some x) len cap); obtain ⟨y3, p0, p1, p2, p3⟩ := row4 hx3; obtain ⟨v3, l0, l1, l2, l3⟩ := row4 hv3; have n2 := lt_of_block hr1))
    | (go_at_call 44; ((with_reducible refine (HO.out _).mono ?_); rintro e wo ⟨rfl, rfl⟩))
    | (go_at_call 48; ((with_reducible refine (HM.out _ b3).mono ?_); rintro e w2 ⟨a2, c2, rfl, hz2, hb2⟩; have hx2 := row_al (row_on hb2 hx3 (lt_of_block hx3)) (devRow s2 o2 t2 a2 len c2); have hr2 := row_al (row_on hb2 hr3 (lt_of_block hr3)) (devRow s2 o2 t2 a2 len c2); have hv2 := row_al (row_on hb2 hv3 (lt_of_block hv3)) (devRow s2 o2 t2 a2 len c2); have hy2 := heap_alloc_new w2 (devRow s2 o2 t2 a2 len c2); obtain ⟨y2, d0, d1, d2, d3⟩ := row4 hx2; obtain ⟨yy2, k0, k1, k2, k3⟩ := row4 hy2; have b2 := b3.trans (hb2.mono b3.size); have b2' := b2.alloc b2.size (devRow s2 o2 t2 a2 len c2)))
    | ((with_reducible refine Plan.store_lit 24 (.tmp 6) _ (w.heap.size + 1) ?_ hr2 ?_ ?_ ?_ ?_ ?_ ?_); rotate_left; (· rfl); (· rfl); (· exact dev_info); (· rfl); (· simp [Value.oneCell']); simp only [Act.put]))
  have b4 := below_setRow b2' (show w.heap.size ≤ w.heap.size + 1 by omega) #[.int .i64 size, .int .i64 op, .int .i64 act, .slice (some x) len cap]
  refine bodyPost_ret (results_cell_tmp2 (p := 6) (q := 7) (r := 8) rfl _ _ _ _ _ _ _ rfl (setRow_heap _ _ _ _ _ _ hr2) Try.underlying24 rfl dev_info) rfl ⟨some x, cap, rfl, (hz.on (Agree.below b4)).mono (fun b _ hb => .inl hb), b4⟩
theorem refAppend_any (F : Nat → Prop) (D : Dev) (a : Option Addr) (len cap : Nat) (k : Int) (s : ByteArray) (w : World) (hF : ∀ b, F b → b < w.heap.size) (hz : ZonesIn w F a len cap D.zones) (hm : len ≤ 1000000) :
    Calls Try.prog 39 #[devV D a len cap, .int .i64 k, .string s] w (AppPost w F len (appendR D k s) (appendO D k s) (appendE D k s)) := by
  by_cases hE : zoneE D k = 0
  · obtain ⟨hc, h1, h2⟩ := zoneE_of hE
    obtain ⟨i, rfl⟩ : ∃ i : Nat, k = (i : Int) := ⟨k.toNat, by omega⟩
    have hi : i < len := by rw [hz.is.length] at h2; omega
    have bad : ∀ E : Int, E ≠ 0 → appendE D (i : Int) s = E → appendR D (i : Int) s = D ∧ appendO D (i : Int) s = 0 := fun E h0 h => by
      constructor
      · unfold appendR; rw [h, if_neg h0]
      · unfold appendO; rw [h, if_neg h0]
    by_cases hs : s.size = 40
    · by_cases h5 : stateAt D (i : Int) = 5
      · have he : appendE D (i : Int) s = 6 := by simp [appendE, hE, hs, h5]
        obtain ⟨hr, ho⟩ := bad 6 (by decide) he
        rw [he, hr, ho]
        exact refAppend_state F D a len cap i s 6 w hz hc hi (.inr (.inl ⟨hs, h5, rfl⟩))
      · by_cases h4 : stateAt D (i : Int) = 4
        · have he : appendE D (i : Int) s = 7 := by simp [appendE, hE, hs, h4]
          obtain ⟨hr, ho⟩ := bad 7 (by decide) he
          rw [he, hr, ho]
          exact refAppend_state F D a len cap i s 7 w hz hc hi (.inr (.inr ⟨hs, h4, rfl⟩))
        · obtain ⟨x, z, sa, sl, sc, -, hzk, -, -⟩ := hz.zone i hi
          cases hopen : openB (stateAt D (i : Int)) with
          | true =>
            have he : appendE D (i : Int) s = 0 := by simp [appendE, hE, hs, h5, h4, hopen]
            have hrd : ready D (i : Int) = D := by unfold ready; rw [if_pos hopen]
            have ho : appendO D (i : Int) s = ((D.zones.getD i empty).sectors.length : Int) := by
              unfold appendO
              rw [if_pos he, hrd, Int.toNat_natCast]
            have hr : appendR D (i : Int) s = withZ D i (appended (D.zones.getD i empty) s D.size) := by
              unfold appendR
              rw [if_pos he, hrd, Int.toNat_natCast]
            rw [he, ho, hr]
            by_cases hf : ((D.zones.getD i empty).sectors.length : Int) + 1 = D.size
            · rw [show appended (D.zones.getD i empty) s D.size = ⟨4, D.size, (D.zones.getD i empty).sectors ++ [s]⟩ by unfold appended; rw [if_pos hf]]
              exact refAppend_open_full F D a len cap i s w hF hz hm hi hc hs h5 h4 hopen hf
            · rw [show appended (D.zones.getD i empty) s D.size = ⟨(D.zones.getD i empty).state, (D.zones.getD i empty).durable, (D.zones.getD i empty).sectors ++ [s]⟩ by
                unfold appended
                rw [if_neg hf, if_pos (by rw [getD_of hzk, ← stateAt_of hzk]; exact hopen)]]
              exact refAppend_open_more F D a len cap i s w hF hz hm hi hc hs h5 h4 hopen hf
          | false =>
            have hee : appendE D (i : Int) s = roomE D i := by simp [appendE, hE, hs, h5, h4, hopen]
            by_cases hn : roomE D i = 0
            · have he : appendE D (i : Int) s = 0 := by rw [hee, hn]
              have hrd : ready D (i : Int) = roomR D i := by unfold ready; rw [hopen, if_neg (by decide), Int.toNat_natCast]
              have hat : (ready D (i : Int)).zones.getD i empty = D.zones.getD i empty := by rw [getD_of (ready_at hzk), getD_of hzk]
              have ho : appendO D (i : Int) s = ((D.zones.getD i empty).sectors.length : Int) := by
                unfold appendO
                rw [if_pos he, Int.toNat_natCast, hat]
              have hr : appendR D (i : Int) s = withZ (roomR D i) i (appended (D.zones.getD i empty) s D.size) := by
                unfold appendR
                rw [if_pos he, Int.toNat_natCast, hat, hrd]
              rw [he, ho, hr]
              by_cases hf : ((D.zones.getD i empty).sectors.length : Int) + 1 = D.size
              · rw [show appended (D.zones.getD i empty) s D.size = ⟨4, D.size, (D.zones.getD i empty).sectors ++ [s]⟩ by unfold appended; rw [if_pos hf]]
                exact refAppend_room_full F D a len cap i s w hF hz hm hi hc hs h5 h4 hopen hn hf
              · rw [show appended (D.zones.getD i empty) s D.size = ⟨1, (D.zones.getD i empty).durable, (D.zones.getD i empty).sectors ++ [s]⟩ by
                  unfold appended
                  rw [if_neg hf, if_neg (by rw [getD_of hzk, ← stateAt_of hzk, hopen]; decide)]]
                exact refAppend_room_more F D a len cap i s w hF hz hm hi hc hs h5 h4 hopen hn hf
            · obtain ⟨hr, ho⟩ := bad _ hn hee
              rw [hee, hr, ho]
              exact refAppend_none F D a len cap i s w hF hz hm hi hc hs h5 h4 hopen hn
    · have he : appendE D (i : Int) s = 2 := by simp [appendE, hE, hs]
      obtain ⟨hr, ho⟩ := bad 2 (by decide) he
      rw [he, hr, ho]
      exact refAppend_state F D a len cap i s 2 w hz hc hi (.inl ⟨hs, rfl⟩)
  · have he : appendE D k s = zoneE D k := by simp [appendE, hE]
    have hr : appendR D k s = D := by unfold appendR; rw [he, if_neg hE]
    have ho : appendO D k s = 0 := by unfold appendO; rw [he, if_neg hE]
    rw [he, hr, ho]
    by_cases hc : checkE D = 0
    · have hk : k < 0 ∨ (D.zones.length : Int) ≤ k := Classical.byContradiction fun h => hE (by unfold zoneE; rw [if_neg (by simp [hc]), if_neg h])
      rw [show zoneE D k = 5 by unfold zoneE; rw [if_neg (by simp [hc]), if_pos hk]]
      exact refAppend_zone F D a len cap k s w hz hc hk
    · rw [show zoneE D k = checkE D by unfold zoneE; rw [if_pos hc]]
      exact refAppend_check F D a len cap k s w hz hc
end Go.Proofs.Ytlplomofgbmgaaa

/- The functions of devices without a bound on their zones: a device with too many zones is refused. -/
namespace Go.Proofs.Ytlplomofgbmgaaa
open Go.RowKit Plan ZnsMath

theorem check_small {D : Dev} {len : Nat} (hl : D.zones.length = len) (h : checkE D = 0) : len ≤ 1000000 := by
  have := config_parts (check_parts h).1
  omega
theorem zoneE_bad {D : Dev} (k : Int) (h : checkE D ≠ 0) : zoneE D k ≠ 0 := by unfold zoneE; rw [if_pos h]; exact h
theorem beginE_bad {D : Dev} (k : Int) (h : checkE D ≠ 0) : beginE D k ≠ 0 := by unfold beginE; rw [if_pos (zoneE_bad k h)]; exact zoneE_bad k h
set_option maxHeartbeats 1000000 in
set_option maxRecDepth 20000 in
theorem refReset_err (F : Nat → Prop) (D : Dev) (a : Option Addr) (len cap : Nat) (k : Int) (w : World) (hz : ZonesIn w F a len cap D.zones) (hE : beginE D k ≠ 0) :
    Calls Try.prog 35 #[devV D a len cap, .int .i64 k] w (DevPost w F len (resetR D k) (beginE D k)) := by
  have hbg := fun W (h : Below w.heap.size w W) => refBegin_any D a len cap k W (hz.on (Agree.below h)).is
  have hB2 : Below w.heap.size w ((w.alloc (devRow D.size D.maxOpen D.maxActive a len cap)).alloc (devRow 0 0 0 none 0 0)) := ((Below.refl _ _).alloc (Nat.le_refl _) _).alloc (by simp) _
  rw [resetR_no hE]
  unfold DevPost
  generalize beginE D k = E at *
  have hE1 : (E != 0) = true := by simp [hE]
  have HB := Lib.hid hbg
  have HA := Lib.hid hB2
  clear hbg hB2 hE
  obtain ⟨size, op, act, Z⟩ := D
  go_enter Try.func35, Try.ntmps35
  go_wp2_with (first
    | (go_at_call 46; ((with_reducible refine (HB.out _ HA.out).mono ?_); rintro e w1 ⟨rfl, hb1⟩; have hx1 := row_on hb1 (heap_first w _ _) (by simp; omega); have hr1 := row_on hb1 (heap_second w _ _) (by simp); obtain ⟨y1, d0, d1, d2, d3⟩ := row4 hx1; have b1 := HA.out.trans (hb1.mono (by simp; omega))))
    | ((with_reducible refine Plan.store_lit 24 (.tmp 4) _ (w.heap.size + 1) ?_ hr1 ?_ ?_ ?_ ?_ ?_ ?_); rotate_left; (· rfl); (· rfl); (· exact dev_info); (· rfl); (· simp [Value.oneCell']); simp only [Act.put]))
  have b2 := below_setRow b1 (show w.heap.size ≤ w.heap.size + 1 by omega) #[.int .i64 size, .int .i64 op, .int .i64 act, .slice a len cap]
  refine bodyPost_ret (Plan.results_cell_tmp (p := 4) (q := 5) rfl _ _ _ _ _ _ _ rfl (setRow_heap _ _ _ _ _ _ hr1) Try.underlying24 rfl dev_info) rfl ⟨a, cap, rfl, (hz.on (Agree.below b2)).mono (fun b _ hb => .inl hb), b2⟩
set_option maxHeartbeats 1000000 in
set_option maxRecDepth 20000 in
theorem refFinish_err (F : Nat → Prop) (D : Dev) (a : Option Addr) (len cap : Nat) (k : Int) (w : World) (hz : ZonesIn w F a len cap D.zones) (hE : beginE D k ≠ 0) :
    Calls Try.prog 36 #[devV D a len cap, .int .i64 k] w (DevPost w F len (finishR D k) (beginE D k)) := by
  have hbg := fun W (h : Below w.heap.size w W) => refBegin_any D a len cap k W (hz.on (Agree.below h)).is
  have hB2 : Below w.heap.size w ((w.alloc (devRow D.size D.maxOpen D.maxActive a len cap)).alloc (devRow 0 0 0 none 0 0)) := ((Below.refl _ _).alloc (Nat.le_refl _) _).alloc (by simp) _
  rw [finishR_no hE]
  unfold DevPost
  generalize beginE D k = E at *
  have hE1 : (E != 0) = true := by simp [hE]
  have HB := Lib.hid hbg
  have HA := Lib.hid hB2
  clear hbg hB2 hE
  obtain ⟨size, op, act, Z⟩ := D
  go_enter Try.func36, Try.ntmps36
  go_wp2_with (first
    | (go_at_call 46; ((with_reducible refine (HB.out _ HA.out).mono ?_); rintro e w1 ⟨rfl, hb1⟩; have hx1 := row_on hb1 (heap_first w _ _) (by simp; omega); have hr1 := row_on hb1 (heap_second w _ _) (by simp); obtain ⟨y1, d0, d1, d2, d3⟩ := row4 hx1; have b1 := HA.out.trans (hb1.mono (by simp; omega))))
    | ((with_reducible refine Plan.store_lit 24 (.tmp 4) _ (w.heap.size + 1) ?_ hr1 ?_ ?_ ?_ ?_ ?_ ?_); rotate_left; (· rfl); (· rfl); (· exact dev_info); (· rfl); (· simp [Value.oneCell']); simp only [Act.put]))
  have b2 := below_setRow b1 (show w.heap.size ≤ w.heap.size + 1 by omega) #[.int .i64 size, .int .i64 op, .int .i64 act, .slice a len cap]
  refine bodyPost_ret (Plan.results_cell_tmp (p := 4) (q := 5) rfl _ _ _ _ _ _ _ rfl (setRow_heap _ _ _ _ _ _ hr1) Try.underlying24 rfl dev_info) rfl ⟨a, cap, rfl, (hz.on (Agree.below b2)).mono (fun b _ hb => .inl hb), b2⟩
theorem refReset_all (F : Nat → Prop) (D : Dev) (a : Option Addr) (len cap : Nat) (k : Int) (w : World) (hF : ∀ b, F b → b < w.heap.size) (hz : ZonesIn w F a len cap D.zones) :
    Calls Try.prog 35 #[devV D a len cap, .int .i64 k] w (DevPost w F len (resetR D k) (beginE D k)) := by
  by_cases hc : checkE D = 0
  · exact refReset_any F D a len cap k w hF hz (check_small hz.is.length hc)
  · exact refReset_err F D a len cap k w hz (beginE_bad k hc)
theorem refFinish_all (F : Nat → Prop) (D : Dev) (a : Option Addr) (len cap : Nat) (k : Int) (w : World) (hF : ∀ b, F b → b < w.heap.size) (hz : ZonesIn w F a len cap D.zones) :
    Calls Try.prog 36 #[devV D a len cap, .int .i64 k] w (DevPost w F len (finishR D k) (beginE D k)) := by
  by_cases hc : checkE D = 0
  · exact refFinish_any F D a len cap k w hF hz (check_small hz.is.length hc)
  · exact refFinish_err F D a len cap k w hz (beginE_bad k hc)
theorem refOpen_all (F : Nat → Prop) (D : Dev) (a : Option Addr) (len cap : Nat) (k : Int) (w : World) (hF : ∀ b, F b → b < w.heap.size) (hz : ZonesIn w F a len cap D.zones) :
    Calls Try.prog 37 #[devV D a len cap, .int .i64 k] w (DevPost w F len (openR D k) (openE D k)) := by
  by_cases hc : checkE D = 0
  · exact refOpen_any F D a len cap k w hF hz (check_small hz.is.length hc)
  · have he : openE D k = beginE D k := by simp [openE, beginE_bad k hc]
    rw [show openR D k = D by simp [openR, he, beginE_bad k hc], he]
    exact refOpen_err F D a len cap k w hz (beginE_bad k hc)
theorem refClose_all (F : Nat → Prop) (D : Dev) (a : Option Addr) (len cap : Nat) (k : Int) (w : World) (hF : ∀ b, F b → b < w.heap.size) (hz : ZonesIn w F a len cap D.zones) :
    Calls Try.prog 38 #[devV D a len cap, .int .i64 k] w (DevPost w F len (closeR D k) (closeE D k)) := by
  by_cases hc : checkE D = 0
  · exact refClose_any F D a len cap k w hF hz (check_small hz.is.length hc)
  · have he : closeE D k = beginE D k := by simp [closeE, beginE_bad k hc]
    rw [show closeR D k = D by simp [closeR, he, beginE_bad k hc], he]
    exact refClose_err F D a len cap k w hz (beginE_bad k hc)
theorem refAppend_all (F : Nat → Prop) (D : Dev) (a : Option Addr) (len cap : Nat) (k : Int) (s : ByteArray) (w : World) (hF : ∀ b, F b → b < w.heap.size) (hz : ZonesIn w F a len cap D.zones) :
    Calls Try.prog 39 #[devV D a len cap, .int .i64 k, .string s] w (AppPost w F len (appendR D k s) (appendO D k s) (appendE D k s)) := by
  by_cases hc : checkE D = 0
  · exact refAppend_any F D a len cap k s w hF hz (check_small hz.is.length hc)
  · have he : appendE D k s = zoneE D k := by simp [appendE, zoneE_bad k hc]
    rw [show appendR D k s = D by simp [appendR, he, zoneE_bad k hc], show appendO D k s = 0 by simp [appendO, he, zoneE_bad k hc], he]
    rw [show zoneE D k = checkE D by unfold zoneE; rw [if_pos hc]]
    exact refAppend_check F D a len cap k s w hz hc
end Go.Proofs.Ytlplomofgbmgaaa
