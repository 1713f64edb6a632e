
/- The walk of LivePending, under the program's contracts. -/
import Derived.Test.YtigmjpkhpoolkaaCntRaw
import Derived.Test.YtigmjpkhpoolkaaMakeDice
namespace Go.Proofs.Ytigmjpkhpoolkaa.Ents
open Go.RowKit Plan EntMath CntMath
theorem pend_has {n j q : Nat} {K : List Int} (hn1 : 1 ≤ n) (hn2 : n ≤ 32) (hK : K.length = n) (hb : ∀ z ∈ K, 0 ≤ z ∧ z ≤ (j : Int)) (hj : j ≤ 100) (hq : q < n) : hasC ⟨List.replicate n 0, K⟩ (q : Int) = true := by
  refine has_c.2 ⟨valid_c.2 ⟨⟨by simp [hK], by simpa using hn1, by simpa using hn2⟩, fun z hz => ?_, fun z hz => ?_⟩, by omega, by simpa using hq⟩
  · have := List.eq_of_mem_replicate hz
    omega
  · have := hb z hz
    omega
theorem pend_begin {n j q : Nat} {K : List Int} {y : Int} (hn1 : 1 ≤ n) (hn2 : n ≤ 32) (hK : K.length = n) (hb : ∀ z ∈ K, 0 ≤ z ∧ z ≤ (j : Int)) (hj : j ≤ 100) (hy : K[q]? = some y) : beginB ⟨List.replicate n 0, K⟩ (q : Int) = true ∧ beginC ⟨List.replicate n 0, K⟩ (q : Int) = ⟨List.replicate n 0, K.set q (y + 1)⟩ := by
  have hq : q < n := by have := (List.getElem?_eq_some_iff.1 hy).1; omega
  have hyb := hb y (List.mem_of_getElem? hy)
  obtain ⟨h1, h2⟩ := begin_is (pend_has hn1 hn2 hK hb hj hq) hy
  rw [h1, h2, if_neg (by omega), plus_is hy]
  exact ⟨by simp; omega, rfl⟩
theorem set_same {K : List Int} {q : Nat} {y : Int} (hy : K[q]? = some y) : K.set q y = K := by
  refine List.ext_getElem? fun i => ?_
  rw [List.getElem?_set]
  split
  · rename_i h
    subst h
    rw [if_pos (List.getElem?_eq_some_iff.1 hy).1, hy]
  · rfl
theorem pend_end {n j q : Nat} {K : List Int} {y : Int} (hn1 : 1 ≤ n) (hn2 : n ≤ 32) (hK : K.length = n) (hb : ∀ z ∈ K, 0 ≤ z ∧ z ≤ (j : Int)) (hj : j ≤ 100) (hy : K[q]? = some y) : endB ⟨List.replicate n 0, K⟩ (q : Int) = decide (0 < y) ∧ endC ⟨List.replicate n 0, K⟩ (q : Int) = ⟨List.replicate n 0, K.set q (max 0 (y - 1))⟩ := by
  have hq : q < n := by have := (List.getElem?_eq_some_iff.1 hy).1; omega
  have hyb := hb y (List.mem_of_getElem? hy)
  obtain ⟨h1, h2⟩ := end_is (pend_has hn1 hn2 hK hb hj hq) hy
  rw [h1, h2]
  refine ⟨decide_eq_decide.2 (by omega), ?_⟩
  by_cases h0 : y = 0
  · subst h0
    rw [if_pos rfl, show max (0 : Int) (0 - 1) = 0 from rfl, set_same hy]
  · rw [if_neg h0, plus_is hy, show max (0 : Int) (y - 1) = y + -1 from by omega]
theorem set_bound {K : List Int} {j q : Nat} {y : Int} (hb : ∀ z ∈ K, 0 ≤ z ∧ z ≤ (j : Int)) (hy : 0 ≤ y ∧ y ≤ (j : Int) + 1) : ∀ z ∈ K.set q y, 0 ≤ z ∧ z ≤ ((j + 1 : Nat) : Int) := by
  intro z hz
  rcases List.mem_or_eq_of_mem_set hz with h | rfl
  · have := hb z h
    omega
  · omega
theorem store_int_c {ops : Array Oper} {rest : List Oper} {a : Act} {w : World} {Q : Exit → Act → World → Prop} (ty : TypeId) (x y : Operand) {t' : TypeId} {pos : String} {after : Array Edge}
    (b o : Nat) (k : IntKind) (n : Int) (hx : a.eval x = .pointer (some ⟨b, o, none⟩)) (hy : a.eval y = .int k n) (hc : ∃ u, w.cell? ⟨b, o, none⟩ = some u) (hf : w.frozen? ⟨b, o, none⟩ = false) (hi : (Try.prog.info? ty).map (·.size) = some 1)
    (h : wpList Try.prog ops Q rest (a.put none undef) (w.setCell ⟨b, o, none⟩ (.int k n))) : wpList Try.prog ops Q (⟨none, .store ty x y, t', pos, after, none⟩ :: rest) a w :=
  wpList_plain rfl fun _ hK => Put.wp_store_int ty x y rfl b o k n hx hy hc hf hi (hK _ _ h)
theorem row_cell {w : World} {g q : Nat} {K : List Int} {y : Int} (h : w.heap[g]? = some (intRow K)) (hy : K[q]? = some y) : w.cell? ⟨g, q, none⟩ = some (.int .i64 y) := by
  have h2 := cell_of_row w g q _ _ _ h
  rw [List.getElem?_toArray, intC_at hy] at h2
  exact h2
theorem byte_at {w W : World} {a : Option Addr} {l c : Nat} {zs : List Int} (h : IsRow .u8 w a l c zs) (hb : Below w.heap.size w W) {i : Nat} (hi : i < l) : ∃ x B, a = some x ∧ W.cell? (x.add i) = some (.int .u8 B) ∧ 0 ≤ B ∧ B ≤ 255 := by
  rcases h with ⟨_, rfl, _⟩ | ⟨x, hx, h1, _, h2, h3, h4⟩
  · omega
  · have hc := h3 i (by omega)
    have hw : (Lit.int .u8 (zs.getD i 0)).wf = true := h4 _ (by
      rw [List.getD_eq_getElem?_getD, List.getElem?_eq_getElem (by omega)]
      exact List.getElem_mem _)
    have hr : 0 ≤ zs.getD i 0 ∧ zs.getD i 0 ≤ 255 := by
      have e1 : IntKind.u8.min = 0 := rfl
      have e2 : IntKind.u8.max = 255 := rfl
      simp only [Lit.wf, decide_eq_true_eq, Bool.and_eq_true] at hw
      omega
    exact ⟨x, zs.getD i 0, hx, (hb.cell (p := x.add i) (by first | exact Go.RowKit.block_lt_of_cell hc | exact block_lt_of_cell hc | exact World.block_lt_of_cell? _ hc | exact World.block_lt_of_cell? _ _ hc)).trans hc, hr⟩
set_option maxHeartbeats 16000000 in
set_option maxRecDepth 20000 in
theorem cntPend_any (H : LiveOk) (y : Int) (hy : 0 ≤ y ∧ y ≤ 255) (a : Option Addr) (l c : Nat) (zs : List Int) (w : World) (hl : IsRow .u8 w a l c zs) :
    Calls Try.prog 5 #[.int .u8 y, .slice a l c] w fun r w' => r = .returned (.bool true) ∧ Below w.heap.size w w' := by
  have HW := Lib.hid (fun W => cntAwake_any H W)
  by_cases hm : 100 < l
  · have d1 : decide ((100 : Int) < (l : Int)) = true := by simp; omega
    have d2 : decide (100 < l) = true := by simp; omega
    have d3 : (100 : Int) < (l : Int) := by omega
    go_enter Try.func5, Try.ntmps5
    go_wp2_with (first
      | (go_at_call 7; ((with_reducible refine (HW.out _).mono ?_); rintro r9 w6 ⟨rfl, hb⟩)))
    go_ret
    exact ⟨rfl, hb⟩
  · have d1 : decide ((100 : Int) < (l : Int)) = false := by simp; omega
    have d2 : decide (100 < l) = false := by simp; omega
    have d3 : ¬ (100 : Int) < (l : Int) := by omega
    obtain ⟨T, e1⟩ : ∃ T, y.tmod 32 = T := ⟨_, rfl⟩
    have eT : 0 ≤ T ∧ T ≤ 31 := by rw [← e1, Int.tmod_eq_emod_of_nonneg hy.1]; omega
    obtain ⟨n, e2⟩ : ∃ n : Nat, 1 + T = (n : Int) := ⟨(1 + T).toNat, by omega⟩
    have hn1 : 1 ≤ n := by omega
    have hn2 : n ≤ 32 := by omega
    have hnew := fun W => H.new (n : Int) W
    unfold CNewPost at hnew
    rw [show newC (n : Int) = ⟨List.replicate n 0, List.replicate n 0⟩ from by unfold newC; rw [if_pos (by omega), Int.toNat_natCast], show newCE (n : Int) = 0 from if_pos (by omega)] at hnew
    have HN := Lib.hid hnew
    have hmk := fun w => run_make_row' (P := Try.prog) 22 3 (.int .i64 0) 8 Try.underlying22 int_row rfl .i64 .i64 n (by omega) (by omega) w
    clear hnew
    go_enter Try.func5, Try.ntmps5
    go_wp2_with (first
      | (go_at_call 10; ((with_reducible refine (HN.out _).mono ?_); rintro r9 w5 ⟨xa, xn, xc, xa2, xn2, xc2, rfl, lx, hb⟩; have exn := lx.l.length; rw [List.length_replicate] at exn; have exn2 := lx.p.length; rw [List.length_replicate] at exn2; subst exn; subst exn2; clear HN)))
    rw [show (Obj.cells (madeCells #[.int .i64 0] n) 3) = intRow (List.replicate n 0) from zero_row n]
    have kX := hb.size
    have hX := heap_first w5 (cntRow xa n xc xa2 n xc2) (intRow (List.replicate n 0))
    have hg := heap_second w5 (cntRow xa n xc xa2 n xc2) (intRow (List.replicate n 0))
    have hb := hb.alloc hb.size (cntRow xa n xc xa2 n xc2)
    have hb := hb.alloc hb.size (intRow (List.replicate n 0))
    have lx := (((lx.mono (G := fun b => b ≠ w5.heap.size ∧ b ≠ w5.heap.size + 1) (fun b h _ => by omega)).on (Same.alloc w5 (cntRow xa n xc xa2 n xc2)))).on (Same.alloc (w5.alloc (cntRow xa n xc xa2 n xc2)) (intRow (List.replicate n 0)))
    generalize (w5.alloc (cntRow xa n xc xa2 n xc2)).alloc (intRow (List.replicate n 0)) = w0 at *
    have hgX : w5.heap.size ≠ w5.heap.size + 1 := by omega
    have kg : w.heap.size ≤ w5.heap.size + 1 := by omega
    generalize w5.heap.size + 1 = g at *
    generalize w5.heap.size = X at *
    have HB := Lib.hid (fun W (h : Below w.heap.size w W) (i : Nat) (hi : i < l) => byte_at hl h hi)
    clear hl hmk
    go_loopw [9] (fun x wr => ∃ (j : Nat) (K : List Int) (xa xa2 : Option Addr) (xc xc2 : Nat), x = .int .i64 (j : Int) ∧ j ≤ l ∧ K.length = n ∧ RowKit.Hid (∀ z ∈ K, 0 ≤ z ∧ z ≤ (j : Int)) ∧ wr.heap[X]? = some (cntRow xa n xc xa2 n xc2) ∧ wr.heap[g]? = some (intRow K) ∧ CList wr (fun b => b ≠ X ∧ b ≠ g) xa n xc xa2 n xc2 ⟨List.replicate n 0, K⟩ ∧ Below w.heap.size w wr) (fun x _ => l - (intOf x).toNat)
    case atStart => exact ⟨0, _, _, _, _, _, rfl, by omega, List.length_replicate .., Lib.hid (fun z hz => by have := List.eq_of_mem_replicate hz; omega), hX, hg, lx, hb⟩
    case round =>
      clear hX hg lx hb
      obtain ⟨j, K, xa, xa2, xc, xc2, rfl, hj, hK, hKb, hX, hg, lx, hb⟩ := hrel
      by_cases hlt : j < l
      · obtain ⟨x, B, rfl, hc, hB⟩ := HB.out wr hb j hlt
        have hjI : (j : Int) < (l : Int) := by omega
        obtain ⟨x0, x1⟩ := two_row hX
        obtain ⟨q, e3⟩ : ∃ q : Nat, B / 2 % (n : Int) = (q : Int) := ⟨(B / 2 % (n : Int)).toNat, by have := Int.emod_nonneg (B / 2) (b := (n : Int)) (by omega); omega⟩
        have hq : q < n := by have := Int.emod_lt_of_pos (B / 2) (b := (n : Int)) (by omega); omega
        have hqI : (q : Int) < (n : Int) := by omega
        obtain ⟨y', hy'⟩ : ∃ y', K[q]? = some y' := ⟨_, List.getElem?_eq_getElem (by omega)⟩
        have hyb := hKb.out y' (List.mem_of_getElem? hy')
        have hgc : wr.cell? ⟨g, q, none⟩ = some (.int .i64 y') := row_cell hg hy'
        cases hp : (bits BinOp.and IntKind.u8 B 1 == 0)
        · have E1 := H.fin _ _ (q : Int) xa xa2 n xc n xc2 wr (fun b h => h.2) lx.cut (by omega) (by omega)
          obtain ⟨r1, r2⟩ := pend_end hn1 hn2 hK hKb.out (by omega) hy'
          unfold CntPost at E1
          rw [r1, r2] at E1
          have HE := Lib.hid E1
          have HNX := Lib.hid (set_bound (q := q) (y := max 0 (y' - 1)) hKb.out (by omega))
          clear E1 r1 r2 hKb lx HB
          rcases (show y' = 0 ∨ y' = 1 ∨ 2 ≤ y' by omega) with h0 | h0 | h0
          · obtain rfl := h0
            rw [show max (0 : Int) (0 - 1) = 0 from rfl] at HE HNX
            have p1 : decide ((0 : Int) < 0) = false := by decide
            rw [p1] at HE
            go_wp2_with (first
              | (go_at_call 19; ((with_reducible refine (HE.out).mono ?_); rintro r9 w6 ⟨ya, yn, yc, ya2, yn2, yc2, rfl, ly, h9⟩; have eyn := ly.l.length; rw [List.length_replicate] at eyn; have eyn2 := ly.p.length; rw [List.length_set, hK] at eyn2; subst eyn; subst eyn2; have ly := ly.mono (G := fun b => b ≠ X ∧ b ≠ g) (fun b _ h => by have h7 := e_lt hX; have h8 := e_lt hg; rcases h with h | h; (· exact h.1); (· exact ⟨by omega, by omega⟩)); have ly := ly.on (Same.alloc w6 (cntRow ya n yc ya2 n yc2)); have hb := hb.trans (h9.mono hb.size); have hb := hb.alloc hb.size (cntRow ya n yc ya2 n yc2); have hX := e_al (e_on h9 hX (e_lt hX)) (cntRow ya n yc ya2 n yc2); have hg := e_al (e_on h9 hg (e_lt hg)) (cntRow ya n yc ya2 n yc2); have hZ := heap_alloc_new w6 (cntRow ya n yc ya2 n yc2); have hgc := row_cell hg hy'; clear x0 x1))
              | ((with_reducible refine Plan.load_lit 24 (.tmp 13) w6.heap.size ?_ hZ Try.underlying24 ?_ ?_ ?_); (· rfl); (· rfl); (· exact cnt_info); simp only [Act.put, List.setIfInBounds_toArray, List.set_cons_zero, List.set_cons_succ])
              | ((with_reducible refine Plan.store_lit 24 (.tmp 6) _ X ?_ hX ?_ ?_ ?_ ?_ ?_ ?_); rotate_left; (· rfl); (· rfl); (· exact cnt_info); (· rfl); (· simp [Value.oneCell']); simp only [Act.put]; have hg := (setRow_other (w6.alloc (cntRow ya n yc ya2 n yc2)) X g #[.slice ya n yc, .slice ya2 n yc2] (Ne.symm hgX)).trans hg; have hX := setRow_heap (w6.alloc (cntRow ya n yc ya2 n yc2)) X _ #[.slice ya n yc, .slice ya2 n yc2] _ _ hX; have hb := below_setRow hb (show w.heap.size ≤ X by omega) #[.slice ya n yc, .slice ya2 n yc2]; have ly := ly.on (Same.row (r := X) (fun h => h.1 rfl) #[.slice ya n yc, .slice ya2 n yc2]); clear hgc hZ; have hgc := row_cell hg hy'; generalize (w6.alloc (cntRow ya n yc ya2 n yc2)).setRow X #[.slice ya n yc, .slice ya2 n yc2] = w7 at *)
              | ((with_reducible refine store_int_c 3 (.tmp 87) (.tmp 86) g q .i64 (0) ?_ ?_ ⟨_, hgc⟩ (free_row_c hg) Put.int_info1 ?_); (· rfl); (· rfl); simp only [Act.put]; rw [setCell_eq_setRow _ _ _ _ _ _ _ hg]; rw [show (intC K).toArray.setIfInBounds q (.int .i64 (0)) = (intC (K.set q (0))).toArray from by rw [List.setIfInBounds_toArray, intC_set]]; have hX := (setRow_other w7 g X (intC (K.set q (0))).toArray hgX).trans hX; have hg := setRow_heap w7 g _ (intC (K.set q (0))).toArray _ _ hg; have hb := below_setRow hb kg (intC (K.set q (0))).toArray; have ly := ly.on (Same.row (r := g) (fun h => h.2 rfl) (intC (K.set q (0))).toArray); clear hgc; generalize w7.setRow g (intC (K.set q (0))).toArray = w8 at *))
            go_roundw
            case rel => exact ⟨j + 1, K.set q (0), _, _, _, _, by go_num, by omega, by rw [List.length_set, hK], HNX, hX, hg, ly, hb⟩
            case measure => simp [intOf]; omega
          · obtain rfl := h0
            rw [show max (0 : Int) (1 - 1) = 0 from rfl] at HE HNX
            rw [show decide ((0 : Int) < 1) = true from by decide] at HE
            go_wp2_with (first
              | (go_at_call 19; ((with_reducible refine (HE.out).mono ?_); rintro r9 w6 ⟨ya, yn, yc, ya2, yn2, yc2, rfl, ly, h9⟩; have eyn := ly.l.length; rw [List.length_replicate] at eyn; have eyn2 := ly.p.length; rw [List.length_set, hK] at eyn2; subst eyn; subst eyn2; have ly := ly.mono (G := fun b => b ≠ X ∧ b ≠ g) (fun b _ h => by have h7 := e_lt hX; have h8 := e_lt hg; rcases h with h | h; (· exact h.1); (· exact ⟨by omega, by omega⟩)); have ly := ly.on (Same.alloc w6 (cntRow ya n yc ya2 n yc2)); have hb := hb.trans (h9.mono hb.size); have hb := hb.alloc hb.size (cntRow ya n yc ya2 n yc2); have hX := e_al (e_on h9 hX (e_lt hX)) (cntRow ya n yc ya2 n yc2); have hg := e_al (e_on h9 hg (e_lt hg)) (cntRow ya n yc ya2 n yc2); have hZ := heap_alloc_new w6 (cntRow ya n yc ya2 n yc2); have hgc := row_cell hg hy'; clear x0 x1))
              | ((with_reducible refine Plan.load_lit 24 (.tmp 13) w6.heap.size ?_ hZ Try.underlying24 ?_ ?_ ?_); (· rfl); (· rfl); (· exact cnt_info); simp only [Act.put, List.setIfInBounds_toArray, List.set_cons_zero, List.set_cons_succ])
              | ((with_reducible refine Plan.store_lit 24 (.tmp 6) _ X ?_ hX ?_ ?_ ?_ ?_ ?_ ?_); rotate_left; (· rfl); (· rfl); (· exact cnt_info); (· rfl); (· simp [Value.oneCell']); simp only [Act.put]; have hg := (setRow_other (w6.alloc (cntRow ya n yc ya2 n yc2)) X g #[.slice ya n yc, .slice ya2 n yc2] (Ne.symm hgX)).trans hg; have hX := setRow_heap (w6.alloc (cntRow ya n yc ya2 n yc2)) X _ #[.slice ya n yc, .slice ya2 n yc2] _ _ hX; have hb := below_setRow hb (show w.heap.size ≤ X by omega) #[.slice ya n yc, .slice ya2 n yc2]; have ly := ly.on (Same.row (r := X) (fun h => h.1 rfl) #[.slice ya n yc, .slice ya2 n yc2]); clear hgc hZ; have hgc := row_cell hg hy'; generalize (w6.alloc (cntRow ya n yc ya2 n yc2)).setRow X #[.slice ya n yc, .slice ya2 n yc2] = w7 at *)
              | ((with_reducible refine store_int_c 3 (.tmp 87) (.tmp 86) g q .i64 (0) ?_ ?_ ⟨_, hgc⟩ (free_row_c hg) Put.int_info1 ?_); (· rfl); (· rfl); simp only [Act.put]; rw [setCell_eq_setRow _ _ _ _ _ _ _ hg]; rw [show (intC K).toArray.setIfInBounds q (.int .i64 (0)) = (intC (K.set q (0))).toArray from by rw [List.setIfInBounds_toArray, intC_set]]; have hX := (setRow_other w7 g X (intC (K.set q (0))).toArray hgX).trans hX; have hg := setRow_heap w7 g _ (intC (K.set q (0))).toArray _ _ hg; have hb := below_setRow hb kg (intC (K.set q (0))).toArray; have ly := ly.on (Same.row (r := g) (fun h => h.2 rfl) (intC (K.set q (0))).toArray); clear hgc; generalize w7.setRow g (intC (K.set q (0))).toArray = w8 at *))
            go_roundw
            case rel => exact ⟨j + 1, K.set q (0), _, _, _, _, by go_num, by omega, by rw [List.length_set, hK], HNX, hX, hg, ly, hb⟩
            case measure => simp [intOf]; omega
          · rw [show max (0 : Int) (y' - 1) = y' - 1 from by omega] at HE HNX
            rw [show decide (0 < y') = true from by simp; omega] at HE
            have p2 : ¬ (y' - 1 < 0) := by omega
            have p3 : 0 < y' - 1 := by omega
            have p4 : 0 < y' := by omega
            have p5 : decide (0 < y') = true := by simpa using p4
            have p6 : decide (0 < y' - 1) = true := by simpa using p3
            have p7 : decide (y' - 1 < 0) = false := by simpa using p2
            go_wp2_with (first
              | (go_at_call 19; ((with_reducible refine (HE.out).mono ?_); rintro r9 w6 ⟨ya, yn, yc, ya2, yn2, yc2, rfl, ly, h9⟩; have eyn := ly.l.length; rw [List.length_replicate] at eyn; have eyn2 := ly.p.length; rw [List.length_set, hK] at eyn2; subst eyn; subst eyn2; have ly := ly.mono (G := fun b => b ≠ X ∧ b ≠ g) (fun b _ h => by have h7 := e_lt hX; have h8 := e_lt hg; rcases h with h | h; (· exact h.1); (· exact ⟨by omega, by omega⟩)); have ly := ly.on (Same.alloc w6 (cntRow ya n yc ya2 n yc2)); have hb := hb.trans (h9.mono hb.size); have hb := hb.alloc hb.size (cntRow ya n yc ya2 n yc2); have hX := e_al (e_on h9 hX (e_lt hX)) (cntRow ya n yc ya2 n yc2); have hg := e_al (e_on h9 hg (e_lt hg)) (cntRow ya n yc ya2 n yc2); have hZ := heap_alloc_new w6 (cntRow ya n yc ya2 n yc2); have hgc := row_cell hg hy'; clear x0 x1))
              | ((with_reducible refine Plan.load_lit 24 (.tmp 13) w6.heap.size ?_ hZ Try.underlying24 ?_ ?_ ?_); (· rfl); (· rfl); (· exact cnt_info); simp only [Act.put, List.setIfInBounds_toArray, List.set_cons_zero, List.set_cons_succ])
              | ((with_reducible refine Plan.store_lit 24 (.tmp 6) _ X ?_ hX ?_ ?_ ?_ ?_ ?_ ?_); rotate_left; (· rfl); (· rfl); (· exact cnt_info); (· rfl); (· simp [Value.oneCell']); simp only [Act.put]; have hg := (setRow_other (w6.alloc (cntRow ya n yc ya2 n yc2)) X g #[.slice ya n yc, .slice ya2 n yc2] (Ne.symm hgX)).trans hg; have hX := setRow_heap (w6.alloc (cntRow ya n yc ya2 n yc2)) X _ #[.slice ya n yc, .slice ya2 n yc2] _ _ hX; have hb := below_setRow hb (show w.heap.size ≤ X by omega) #[.slice ya n yc, .slice ya2 n yc2]; have ly := ly.on (Same.row (r := X) (fun h => h.1 rfl) #[.slice ya n yc, .slice ya2 n yc2]); clear hgc hZ; have hgc := row_cell hg hy'; generalize (w6.alloc (cntRow ya n yc ya2 n yc2)).setRow X #[.slice ya n yc, .slice ya2 n yc2] = w7 at *)
              | ((with_reducible refine store_int_c 3 (.tmp 87) (.tmp 86) g q .i64 (y' - 1) ?_ ?_ ⟨_, hgc⟩ (free_row_c hg) Put.int_info1 ?_); (· rfl); (· rfl); simp only [Act.put]; rw [setCell_eq_setRow _ _ _ _ _ _ _ hg]; rw [show (intC K).toArray.setIfInBounds q (.int .i64 (y' - 1)) = (intC (K.set q (y' - 1))).toArray from by rw [List.setIfInBounds_toArray, intC_set]]; have hX := (setRow_other w7 g X (intC (K.set q (y' - 1))).toArray hgX).trans hX; have hg := setRow_heap w7 g _ (intC (K.set q (y' - 1))).toArray _ _ hg; have hb := below_setRow hb kg (intC (K.set q (y' - 1))).toArray; have ly := ly.on (Same.row (r := g) (fun h => h.2 rfl) (intC (K.set q (y' - 1))).toArray); clear hgc; generalize w7.setRow g (intC (K.set q (y' - 1))).toArray = w8 at *))
            go_roundw
            case rel => exact ⟨j + 1, K.set q (y' - 1), _, _, _, _, by go_num, by omega, by rw [List.length_set, hK], HNX, hX, hg, ly, hb⟩
            case measure => simp [intOf]; omega
        · have B1 := H.bgn _ _ (q : Int) xa xa2 n xc n xc2 wr (fun b h => h.2) lx.cut (by omega) (by omega)
          obtain ⟨r1, r2⟩ := pend_begin hn1 hn2 hK hKb.out (by omega) hy'
          unfold CntPost at B1
          rw [r1, r2] at B1
          have HB1 := Lib.hid B1
          have HNX := Lib.hid (set_bound (q := q) (y := y' + 1) hKb.out (by omega))
          clear B1 r1 r2 hKb lx HB
          go_wp2_with (first
            | (go_at_call 18; ((with_reducible refine (HB1.out).mono ?_); rintro r9 w6 ⟨ya, yn, yc, ya2, yn2, yc2, rfl, ly, h9⟩; have eyn := ly.l.length; rw [List.length_replicate] at eyn; have eyn2 := ly.p.length; rw [List.length_set, hK] at eyn2; subst eyn; subst eyn2; have ly := ly.mono (G := fun b => b ≠ X ∧ b ≠ g) (fun b _ h => by have h7 := e_lt hX; have h8 := e_lt hg; rcases h with h | h; (· exact h.1); (· exact ⟨by omega, by omega⟩)); have ly := ly.on (Same.alloc w6 (cntRow ya n yc ya2 n yc2)); have hb := hb.trans (h9.mono hb.size); have hb := hb.alloc hb.size (cntRow ya n yc ya2 n yc2); have hX := e_al (e_on h9 hX (e_lt hX)) (cntRow ya n yc ya2 n yc2); have hg := e_al (e_on h9 hg (e_lt hg)) (cntRow ya n yc ya2 n yc2); have hZ := heap_alloc_new w6 (cntRow ya n yc ya2 n yc2); have hgc := row_cell hg hy'; clear x0 x1))
            | ((with_reducible refine Plan.load_lit 24 (.tmp 11) w6.heap.size ?_ hZ Try.underlying24 ?_ ?_ ?_); (· rfl); (· rfl); (· exact cnt_info); simp only [Act.put, List.setIfInBounds_toArray, List.set_cons_zero, List.set_cons_succ])
            | ((with_reducible refine Plan.store_lit 24 (.tmp 6) _ X ?_ hX ?_ ?_ ?_ ?_ ?_ ?_); rotate_left; (· rfl); (· rfl); (· exact cnt_info); (· rfl); (· simp [Value.oneCell']); simp only [Act.put]; have hg := (setRow_other (w6.alloc (cntRow ya n yc ya2 n yc2)) X g #[.slice ya n yc, .slice ya2 n yc2] (Ne.symm hgX)).trans hg; have hX := setRow_heap (w6.alloc (cntRow ya n yc ya2 n yc2)) X _ #[.slice ya n yc, .slice ya2 n yc2] _ _ hX; have hb := below_setRow hb (show w.heap.size ≤ X by omega) #[.slice ya n yc, .slice ya2 n yc2]; have ly := ly.on (Same.row (r := X) (fun h => h.1 rfl) #[.slice ya n yc, .slice ya2 n yc2]); clear hgc hZ; have hgc := row_cell hg hy'; generalize (w6.alloc (cntRow ya n yc ya2 n yc2)).setRow X #[.slice ya n yc, .slice ya2 n yc2] = w7 at *)
            | ((with_reducible refine store_int_c 3 (.tmp 64) (.tmp 63) g q .i64 (y' + 1) ?_ ?_ ⟨_, hgc⟩ (free_row_c hg) Put.int_info1 ?_); (· rfl); (· rfl); simp only [Act.put]; rw [setCell_eq_setRow _ _ _ _ _ _ _ hg]; rw [show (intC K).toArray.setIfInBounds q (.int .i64 (y' + 1)) = (intC (K.set q (y' + 1))).toArray from by rw [List.setIfInBounds_toArray, intC_set]]; have hX := (setRow_other w7 g X (intC (K.set q (y' + 1))).toArray hgX).trans hX; have hg := setRow_heap w7 g _ (intC (K.set q (y' + 1))).toArray _ _ hg; have hb := below_setRow hb kg (intC (K.set q (y' + 1))).toArray; have ly := ly.on (Same.row (r := g) (fun h => h.2 rfl) (intC (K.set q (y' + 1))).toArray); clear hgc; generalize w7.setRow g (intC (K.set q (y' + 1))).toArray = w8 at *))
          go_roundw
          case rel => exact ⟨j + 1, K.set q (y' + 1), _, _, _, _, by go_num, by omega, by rw [List.length_set, hK], HNX, hX, hg, ly, hb⟩
          case measure => simp [intOf]; omega
      · obtain rfl : j = l := by omega
        obtain ⟨x0, x1⟩ := two_row hX
        have lg := row_ilist (F := fun _ => True) hg hK (by unfold maxLen; omega) trivial
        have hrI : ¬ (j : Int) < (j : Int) := by omega
        have HS := Lib.hid (sameInts_any _ _ K xa2 (some ⟨g, 0, none⟩) n xc2 n n wr lx.p lg)
        clear lx lg HB
        go_wp2_with (first
          | (go_at_call 20; ((with_reducible refine (HS.out).mono ?_); rintro r9 w6 ⟨rfl, h9⟩; have hb := hb.trans (h9.mono hb.size)))
          | (go_at_call 7; ((with_reducible refine (HW.out _).mono ?_); rintro r9 w7 ⟨rfl, h9⟩; have hb := hb.trans (h9.mono hb.size))))
        go_ret
        exact ⟨rfl, hb⟩
end Go.Proofs.Ytigmjpkhpoolkaa.Ents
