/- Texts that belong together, part 21. -/
import Derived.Test.YthhggiifbldaeaaPack20
import Derived.Deep.Cut
import Derived.Laws.AppendOwnNone

/- The walks of the program's candidates, Choose, Dead and Used: the program's victims do what the laws ask. -/
namespace Go.Proofs.Ythhggiifbldaeaa.VicMath
/-- the zones that can be one, of the first j -/
def cands (can : Int → Bool) : Nat → List Int
  | 0 => []
  | j + 1 => if can (j : Int) then cands can j ++ [(j : Int)] else cands can j
def minV (L : List Int) (m : Int) (X : List Int) : Int := X.foldl (fun m x => if L.getD x.toNat 0 < L.getD m.toNat 0 then x else m) m
def sumV (L : List Int) (sz : Int) (X : List Int) : Int := X.foldl (fun a z => a + sz - 1 - L.getD z.toNat 0) 0
theorem cands_yes {can : Int → Bool} {j : Nat} (h : can (j : Int) = true) : cands can (j + 1) = cands can j ++ [(j : Int)] := by
  have e : cands can (j + 1) = if can (j : Int) then cands can j ++ [(j : Int)] else cands can j := rfl
  rw [e, if_pos h]
theorem cands_no {can : Int → Bool} {j : Nat} (h : can (j : Int) = false) : cands can (j + 1) = cands can j := by
  have e : cands can (j + 1) = if can (j : Int) then cands can j ++ [(j : Int)] else cands can j := rfl
  rw [e, if_neg (by simp [h])]
theorem cands_in {can : Int → Bool} : ∀ (j : Nat) (z : Int), z ∈ cands can j → ∃ i : Nat, i < j ∧ z = (i : Int) ∧ can (i : Int) = true
  | 0, z, h => by cases h
  | j + 1, z, h => by
    cases hc : can (j : Int)
    · rw [cands_no hc] at h
      obtain ⟨i, h1, h2⟩ := cands_in j z h
      exact ⟨i, by omega, h2⟩
    · rw [cands_yes hc] at h
      rcases List.mem_append.1 h with h | h
      · obtain ⟨i, h1, h2⟩ := cands_in j z h
        exact ⟨i, by omega, h2⟩
      · exact ⟨j, by omega, List.mem_singleton.1 h, hc⟩
theorem cands_len (can : Int → Bool) : ∀ j : Nat, (cands can j).length ≤ j
  | 0 => Nat.le_refl _
  | j + 1 => by
    have h := cands_len can j
    cases hc : can (j : Int)
    · rw [cands_no hc]; omega
    · rw [cands_yes hc, List.length_append, List.length_singleton]; omega
theorem best_no {can : Int → Bool} {L : List Int} : ∀ j : Nat, cands can j = [] → bestV can L j = (0, false)
  | 0, _ => rfl
  | j + 1, h => by
    cases hc : can (j : Int)
    · rw [cands_no hc] at h
      exact best_skip (best_no j h) hc
    · rw [cands_yes hc] at h
      simp at h
theorem best_cons {can : Int → Bool} {L : List Int} : ∀ (j : Nat) (c : Int) (r : List Int), cands can j = c :: r → bestV can L j = (minV L c r, true)
  | 0, c, r, h => by cases h
  | j + 1, c, r, h => by
    cases hc : can (j : Int)
    · rw [cands_no hc] at h
      exact best_skip (best_cons j c r h) hc
    · rw [cands_yes hc] at h
      cases hx : cands can j with
      | nil =>
        rw [hx] at h
        obtain ⟨h1, h2⟩ := List.cons.inj (show (j : Int) :: [] = c :: r from h)
        subst h1 h2
        exact best_first (best_no j hx) hc
      | cons c' r' =>
        rw [hx] at h
        obtain ⟨h1, h2⟩ := List.cons.inj (show c' :: (r' ++ [(j : Int)]) = c :: r from h)
        subst h1 h2
        have ih := best_cons (L := L) j c' r' hx
        have e : bestV can L (j + 1) = (let b := bestV can L j; if can (j : Int) && (!b.2 || decide (L.getD j 0 < L.getD b.1.toNat 0)) then ((j : Int), true) else b) := rfl
        have e2 : minV L c' (r' ++ [(j : Int)]) = if L.getD (j : Int).toNat 0 < L.getD (minV L c' r').toNat 0 then (j : Int) else minV L c' r' := by
          unfold minV
          rw [List.foldl_append]
          rfl
        rw [e, ih, e2, Int.toNat_natCast]
        simp only [hc, Bool.not_true, Bool.false_or, Bool.true_and, decide_eq_true_eq]
        split <;> rfl
theorem dead_cands {can : Int → Bool} {L : List Int} {sz : Int} : ∀ j : Nat, deadV can L sz j = sumV L sz (cands can j)
  | 0 => rfl
  | j + 1 => by
    have ih := dead_cands (can := can) (L := L) (sz := sz) j
    cases hc : can (j : Int)
    · rw [cands_no hc, dead_skip hc, ih]
    · have e : deadV can L sz (j + 1) = if can (j : Int) then deadV can L sz j + sz - 1 - L.getD j 0 else deadV can L sz j := rfl
      rw [cands_yes hc, e, if_pos hc, ih]
      unfold sumV
      rw [List.foldl_append]
      show _ = _ + sz - 1 - L.getD (j : Int).toNat 0
      rw [Int.toNat_natCast]
/-- the least of the first i of a list that is not empty -/
def minU (L : List Int) (X : List Int) (i : Nat) : Int := minV L (X.getD 0 0) ((X.drop 1).take (i - 1))
theorem minU_one (L X : List Int) : minU L X 1 = X.getD 0 0 := rfl
theorem minU_next (L : List Int) {X : List Int} {i : Nat} {x : Int} (hi : 1 ≤ i) (hx : X[i]? = some x) : minU L X (i + 1) = if L.getD x.toNat 0 < L.getD (minU L X i).toNat 0 then x else minU L X i := by
  have e : (X.drop 1).take (i + 1 - 1) = (X.drop 1).take (i - 1) ++ [x] := by
    rw [show i + 1 - 1 = (i - 1) + 1 by omega, List.take_add_one, List.getElem?_drop, show 1 + (i - 1) = i by omega, hx]
    rfl
  unfold minU
  rw [e]
  unfold minV
  rw [List.foldl_append]
  rfl
theorem minV_in (L : List Int) : ∀ (X : List Int) (m : Int), minV L m X = m ∨ minV L m X ∈ X
  | [], m => .inl rfl
  | x :: r, m => by
    have e : minV L m (x :: r) = minV L (if L.getD x.toNat 0 < L.getD m.toNat 0 then x else m) r := rfl
    rw [e]
    rcases minV_in L r (if L.getD x.toNat 0 < L.getD m.toNat 0 then x else m) with h | h
    · rw [h]
      split
      · exact .inr (.head _)
      · exact .inl rfl
    · exact .inr (.tail _ h)
theorem minU_in (L : List Int) {X : List Int} (hX : 0 < X.length) (i : Nat) : minU L X i ∈ X := by
  unfold minU
  have h0 : X.getD 0 0 ∈ X := by
    rw [List.getD_eq_getElem?_getD, List.getElem?_eq_getElem hX]
    exact List.getElem_mem hX
  rcases minV_in L ((X.drop 1).take (i - 1)) (X.getD 0 0) with h | h
  · rw [h]; exact h0
  · exact List.mem_of_mem_drop (List.mem_of_mem_take h)
theorem sum_next (L : List Int) (sz : Int) {X : List Int} {i : Nat} {x : Int} (hx : X[i]? = some x) : sumV L sz (X.take (i + 1)) = sumV L sz (X.take i) + sz - 1 - L.getD x.toNat 0 := by
  rw [List.take_add_one, hx]
  unfold sumV
  rw [List.foldl_append]
  rfl
end Go.Proofs.Ythhggiifbldaeaa.VicMath
namespace Go.Proofs.Ythhggiifbldaeaa.Ents
open Go.RowKit Plan ZnsMath EntMath CntMath EpoMath LayMath VicMath
set_option maxHeartbeats 2000000 in
set_option maxRecDepth 20000 in
theorem vicUsed_any (F : Nat → Prop) (Z : List Zone) (s m a : Int) (za : Option Addr) (zn zc : Nat) (z : Int) (w : World) (hl : ZonesIn w F za zn zc Z) :
    Calls Try.prog 24 #[vdV s m a za zn zc, .int .i64 z] w fun r w' => r = .returned (.int .i64 (usedV s Z z)) ∧ Below w.heap.size w w' := by
  have hA := (Below.refl w.heap.size w).alloc (Nat.le_refl _) (vdRow s m a za zn zc)
  have hr := heap_alloc_new w (vdRow s m a za zn zc)
  have hlen := hl.is.length
  by_cases h0 : z < 0
  · have e1 : usedV s Z z = 0 := by unfold usedV; rw [if_pos h0]
    rw [e1]
    clear hl e1
    go_enter Try.func24, Try.ntmps24
    obtain ⟨c0, c3⟩ := vd_row hr
    generalize hw0 : w.alloc (vdRow s m a za zn zc) = w0 at *
    go_wp2_with fail
    go_ret
    exact ⟨rfl, hA⟩
  · obtain ⟨i, rfl⟩ : ∃ i : Nat, z = (i : Int) := ⟨z.toNat, by omega⟩
    by_cases h1 : i < zn
    · obtain ⟨x, y, sa, sl, sc, rfl, hy, ⟨_, _, hc⟩, hs⟩ := hl.zone i h1
      have hsl : sl = y.sectors.length ∧ sl ≤ 9223372036854775807 := by
        rcases hs.1 with ⟨_, h7, _, h8⟩ | ⟨_, _, h7, h8, h9, _⟩
        · exact ⟨by rw [h7, h8]; rfl, by omega⟩
        · exact ⟨h9.symm, by unfold maxLen at h8; omega⟩
      obtain ⟨hsl, hsb⟩ := hsl
      have e1 : usedV s Z (i : Int) = if (sl : Int) = s then s - 1 else (sl : Int) := by
        unfold usedV
        rw [if_neg h0, Int.toNat_natCast, hy, hsl]
      rw [e1]
      have hc2 : (w.alloc (vdRow s m a (some x) zn zc)).cell? ⟨(x.add (i * 3)).block, (x.add (i * 3)).off + 2, none⟩ = some (.slice sa sl sc) := (hA.cell (World.block_lt_of_cell? w _ hc)).trans hc
      have hiI : (i : Int) < (zn : Int) := by omega
      clear hl hy hc e1 hs hsl h0 hlen
      by_cases h2 : (sl : Int) = s
      · have d1 : ((sl : Int) == s) = true := by simpa using h2
        have s1 : wrap64 (s - 1) = s - 1 := by unfold wrap64; omega
        rw [if_pos h2]
        have hs0 : 0 ≤ s ∧ s ≤ 9223372036854775807 := by omega
        clear h2
        go_enter Try.func24, Try.ntmps24
        obtain ⟨c0, c3⟩ := vd_row hr
        generalize hw0 : w.alloc (vdRow s m a (some x) zn zc) = w0 at *
        go_wp2_with fail
        go_ret
        exact ⟨rfl, hA⟩
      · have d1 : ((sl : Int) == s) = false := by simpa using h2
        rw [if_neg h2]
        clear h2
        go_enter Try.func24, Try.ntmps24
        obtain ⟨c0, c3⟩ := vd_row hr
        generalize hw0 : w.alloc (vdRow s m a (some x) zn zc) = w0 at *
        go_wp2_with fail
        go_ret
        exact ⟨rfl, hA⟩
    · have e1 : usedV s Z (i : Int) = 0 := by
        unfold usedV
        rw [if_neg h0, Int.toNat_natCast, List.getElem?_eq_none (by omega)]
      rw [e1]
      have hiI : ¬ (i : Int) < (zn : Int) := by omega
      clear hl e1 h0
      go_enter Try.func24, Try.ntmps24
      obtain ⟨c0, c3⟩ := vd_row hr
      generalize hw0 : w.alloc (vdRow s m a za zn zc) = w0 at *
      go_wp2_with fail
      go_ret
      exact ⟨rfl, hA⟩
def RVi : Rws.Row Int := ⟨3, 22, 1, 8, .int .i64 0, fun z => [.int .i64 z]⟩
theorem rvOk : RVi.Ok := ⟨fun _ => rfl, fun e u hu => by simp only [RVi, List.mem_cons, List.not_mem_nil, or_false] at hu; subst hu; rfl, by decide, by kernel_rfl, rfl, Try.underlying22, by decide⟩
theorem rv_all (L : List Int) : RVi.all L = intC L := by
  induction L with
  | nil => rfl
  | cons e L ih => rw [Rws.all_cons, ih]; rfl
def CandPost (w : World) (X : List Int) (r : Ending) (w' : World) : Prop := ∃ a n c, r = .returned (.slice a n c) ∧ IList w' (fun b => w.heap.size ≤ b) a n c X ∧ Below w.heap.size w w'
set_option maxHeartbeats 8000000 in
set_option maxRecDepth 20000 in
theorem vicCands_any (F : Nat → Prop) (S : Sv) (Z : List Zone) (C : Cnt) (E : Epo) (w : World) (hl : VList w F S Z C E) (hn : S.zN ≤ 1000) :
    Calls Try.prog 27 #[stV S] w (CandPost w (cands (canS S Z C E) S.zN)) := by
  have K := SBox.start w S
  have HC := Lib.hid (fun z W (q : Below w.heap.size w W) => vicCan_any _ S Z C E z W (hl.same q))
  clear hl
  change RowKit.Hid (∀ z W, Below w.heap.size w W → Calls Try.prog 12 #[stV S, .int .i64 z] W fun r w' => r = .returned (.bool (canS S Z C E z)) ∧ Below W.heap.size W w') at HC
  generalize canS S Z C E = can at *
  have HEND := Lib.hid (fun W v m (h : W.ownsRow (w.heap.size + 1) 3 1 v m (intC (cands can S.zN))) => (show ∃ a c, v = .slice a m c ∧ IList W (fun b => w.heap.size ≤ b) a m c (cands can S.zN) from own_ilist h (fun b hb => by have := (h.lt b hb).1; omega)))
  have HLEN := Lib.hid (cands_len can)
  go_enter Try.func27, Try.ntmps27
  have v9 : (w.alloc (stRow S)).cell? ⟨w.heap.size, 9, none⟩ = some (.slice S.zA S.zN S.zC) := st_cell K.hs rfl
  generalize hw0 : w.alloc (stRow S) = w0 at *
  go_wp2_with fail
  clear hw0 v9
  have hs1 := e_lt K.hs
  go_loopw [3, 9] (fun v x wr => ∃ j : Nat, x = .int .i64 (j : Int) ∧ j ≤ S.zN ∧ wr.ownsRow (w.heap.size + 1) 3 1 v (cands can j).length (intC (cands can j)) ∧ SBox w wr S) (fun _ x _ => S.zN - (intOf x).toNat)
  case atStart => exact ⟨0, rfl, by omega, World.ownsRow_nil _ _ _ _, K⟩
  case round =>
    clear K hs1
    obtain ⟨j, rfl, hj, hv, K⟩ := hrel
    by_cases hlt : j < S.zN
    · have hjI : (j : Int) < (S.zN : Int) := by omega
      have HCJ := Lib.hid (HC.out (j : Int))
      have hbj := HLEN.out j
      cases hc : can (j : Int)
      · rw [hc] at HCJ
        have HN := Lib.hid (cands_no hc)
        clear hc
        go_wp2_with (first
          | ((with_reducible refine Plan.load_lit 58 (.tmp 1) w.heap.size ?_ K.hs Try.underlying58 ?_ ?_ ?_); (· rfl); (· rfl); (· exact st_info); simp only [Act.put, List.setIfInBounds_toArray, List.set_cons_zero, List.set_cons_succ])
          | (go_at_call 12; ((with_reducible refine (HCJ.out _ K.hb).mono ?_); rintro r9 w1 ⟨rfl, h1⟩; have K1 := K.on h1; have hv1 := e_owns_on hv h1; clear K hv; have K := K1; have hv := hv1; clear K1 hv1)))
        go_roundw
        case rel => exact ⟨j + 1, by go_num, by omega, by rw [HN.out]; exact hv, K⟩
        case measure => simp [intOf]; omega
      · rw [hc] at HCJ
        have HN := Lib.hid (cands_yes hc)
        clear hc
        go_wp2_with (first
          | ((with_reducible refine Plan.load_lit 58 (.tmp 1) w.heap.size ?_ K.hs Try.underlying58 ?_ ?_ ?_); (· rfl); (· rfl); (· exact st_info); simp only [Act.put, List.setIfInBounds_toArray, List.set_cons_zero, List.set_cons_succ])
          | (go_at_call 12; ((with_reducible refine (HCJ.out _ K.hb).mono ?_); rintro r9 w1 ⟨rfl, h1⟩; have K1 := (K.on h1).on ((Below.refl _ _).alloc (Nat.le_refl _) (.cells #[.int .i64 (j : Int)] 3 (0, 0))); have hOne := heap_alloc_new w1 (.cells #[.int .i64 (j : Int)] 3 (0, 0)); have hv1 := e_owns_on (e_owns_on hv h1) ((Below.refl _ _).alloc (Nat.le_refl _) (.cells #[.int .i64 (j : Int)] 3 (0, 0))); have hlt1 := e_lt K1.hs))
          | (at_builtin; refine wpList_plain rfl fun _ hK => Rws.wp_append_one rvOk (.tmp 15) (.tmp 17) rfl (w.heap.size + 1) _ _ (cands can j) rfl (by rw [rv_all]; exact hv1) w1.heap.size (j : Int) rfl hOne (by omega) (by omega) ?_; intro g9 c9 w9 own9 hgrow9 hat9; rw [rv_all] at own9; refine hK _ _ ?_))
        have b9 := K1.hb.grown hgrow9 K1.hb.size (fun z9 h9 => by have := (hv1.lt z9 h9).1; omega)
        have r9 := (hgrow9.block w.heap.size (e_lt K1.hs) (fun h9 => by have := (hv1.lt _ h9.symm).1; omega)).trans K1.hs
        go_roundw
        case rel => exact ⟨j + 1, by go_num, by omega, by rw [HN.out, List.length_append]; exact own9, ⟨r9, b9⟩⟩
        case measure => simp [intOf]; omega
    · obtain rfl : j = S.zN := by omega
      obtain ⟨a, c, rfl, hil⟩ := HEND.out _ _ _ hv
      go_wp2_with fail
      go_ret
      exact ⟨a, _, c, rfl, hil, K.hb⟩
set_option maxHeartbeats 4000000 in
set_option maxRecDepth 20000 in
theorem vicCmp_any (S : Sv) (p i j : Nat) (x : Addr) (l l2 : Int) (w : World) (hA : S.lA = some x) (hi : i < S.lN) (hj : j < S.lN) (h : w.heap[p]? = some (stRow S)) (h1 : w.cell? (x.add i) = some (.int .i64 l)) (h2 : w.cell? (x.add j) = some (.int .i64 l2)) :
    Calls Try.prog 28 #[.int .i64 (i : Int), .int .i64 (j : Int), .pointer (some ⟨p, 0, none⟩)] w fun r w' => r = .returned (.int .i64 (cmpI l l2)) ∧ Below w.heap.size w w' := by
  have hc := Lib.hid (compare_any l l2)
  have hF := fun W (k : Below w.heap.size w W) => (show W.cell? ⟨p, 11, none⟩ = some (.slice (some x) S.lN S.lC) ∧ W.cell? (x.add i) = some (.int .i64 l) ∧ W.cell? (x.add j) = some (.int .i64 l2) from
    ⟨(k.cell (p := ⟨p, 11, none⟩) (e_lt h)).trans (by rw [← hA]; exact st_cell h rfl), (k.cell (World.block_lt_of_cell? w _ h1)).trans h1, (k.cell (World.block_lt_of_cell? w _ h2)).trans h2⟩)
  have hiI : (i : Int) < (S.lN : Int) := by omega
  have hjI : (j : Int) < (S.lN : Int) := by omega
  generalize cmpI l l2 = CC at *
  clear h h1 h2 hA
  go_enter Try.func28, Try.ntmps28
  go_wp2_with fail
  refine Plan.start (fun W => W.cell? ⟨p, 11, none⟩ = some (.slice (some x) S.lN S.lC) ∧ W.cell? (x.add i) = some (.int .i64 l) ∧ W.cell? (x.add j) = some (.int .i64 l2)) [(0, true), (1, true), (2, true), (3, true), (4, true), (5, true), (6, true), (7, true), (8, true), (9, true), (10, true), (11, true), (12, false), (13, true)] (by kernel_rfl) (by kernel_rfl) (by kernel_rfl) (by kernel_rfl) (hF _ (Below.refl _ _).drew) ?_
  simp only [List.map_cons, List.map_nil, List.getElem?_toArray, List.getElem?_cons_zero, List.getElem?_cons_succ]
  repeat (first | (refine Plan.take ?_ (by rfl) ?_ ?_; rotate_left; (· rintro w9 ⟨u0, u1, u2⟩; go_simp; (try rw [if_neg (by omega)]); all_goals (with_reducible rfl)); simp only [Act.put, List.setIfInBounds_toArray, List.set_cons_zero, List.set_cons_succ]) | (refine Plan.pass (by rfl) ?_; simp only [Act.put, List.setIfInBounds_toArray, List.set_cons_zero, List.set_cons_succ]))
  refine Plan.call (by rfl) 29 _ ?_ (hc.out _) ?_
  · go_simp
  rintro r9 w2 ⟨rfl, rfl⟩
  refine ⟨_, rfl, hF _ (Below.refl _ _).drew, ?_⟩
  simp only [Act.put, List.setIfInBounds_toArray, List.set_cons_zero, List.set_cons_succ]
  repeat (first | (refine Plan.take ?_ (by rfl) ?_ ?_; rotate_left; (· rintro w9 ⟨u0, u1, u2⟩; go_simp; (try rw [if_neg (by omega)]); all_goals (with_reducible rfl)); simp only [Act.put, List.setIfInBounds_toArray, List.set_cons_zero, List.set_cons_succ]) | (refine Plan.pass (by rfl) ?_; simp only [Act.put, List.setIfInBounds_toArray, List.set_cons_zero, List.set_cons_succ]))
  refine Plan.ends ?_
  go_wp2_with fail
  go_ret
  exact ⟨rfl, (Below.refl _ _).drew⟩
def MinPost (w : World) (L X : List Int) (n : Nat) (r : Ending) (w' : World) : Prop := r = .returned (.int .i64 (minU L X n)) ∧ Below w.heap.size w w'
set_option maxHeartbeats 4000000 in
set_option maxRecDepth 20000 in
theorem vicMin_any (F G : Nat → Prop) (S : Sv) (L X : List Int) (a : Option Addr) (n c p : Nat) (w : World) (hl : IList w F S.lA S.lN S.lC L) (hx : IList w G a n c X) (hp : w.heap[p]? = some (stRow S)) (hn : 1 ≤ n) (hX : ∀ z ∈ X, ∃ i : Nat, z = (i : Int) ∧ i < S.lN) :
    Calls Try.prog 30 #[.slice a n c, .func (.func 28) #[] #[.pointer (some ⟨p, 0, none⟩)]] w (MinPost w L X n) := by
  have hlen := hx.length
  have hcp := hx.cap
  unfold maxLen at hcp
  have HAT := Lib.hid (fun W (h : Below w.heap.size w W) i (hi : i < n) => (hx.same h).at' i hi)
  have HLT := Lib.hid (fun W (h : Below w.heap.size w W) i (hi : i < S.lN) => (hl.same h).at' i hi)
  have HB := Lib.hid (fun W (h : Below w.heap.size w W) => e_on h hp (e_lt hp))
  have HIN := Lib.hid (fun i => hX _ (minU_in L (show 0 < X.length by omega) i))
  have HXI := Lib.hid (fun (i : Nat) z (h : X[i]? = some z) => hX z (List.mem_of_getElem? h))
  have HCL := Lib.hid (fun W (h : Below w.heap.size w W) (i j : Nat) (hi : i < S.lN) (hj : j < S.lN) => (show ∃ l l2, L.getD i 0 = l ∧ L.getD j 0 = l2 ∧ Calls Try.prog 28 #[.int .i64 (i : Int), .int .i64 (j : Int), .pointer (some ⟨p, 0, none⟩)] W (fun r w' => r = .returned (.int .i64 (cmpI l l2)) ∧ Below W.heap.size W w') from by
    obtain ⟨x, l, hA, e1, c1⟩ := HLT.out W h i hi
    obtain ⟨x', l2, hA', e2, c2⟩ := HLT.out W h j hj
    rw [hA] at hA'
    obtain rfl := Option.some.inj hA'
    exact ⟨l, l2, by rw [List.getD_eq_getElem?_getD, e1]; rfl, by rw [List.getD_eq_getElem?_getD, e2]; rfl, vicCmp_any S p i j x l l2 W hA hi hj (HB.out W h) c1 c2⟩))
  have HNX := Lib.hid (fun (i : Nat) z (hi : 1 ≤ i) (h : X[i]? = some z) => minU_next L hi h)
  have HONE := Lib.hid (fun z (h : X[0]? = some z) => (show minU L X 1 = z from by rw [minU_one, List.getD_eq_getElem?_getD, h]; rfl))
  unfold MinPost
  clear hl hx hp hX hlen
  obtain ⟨x0, z0, rfl, hz0, c0⟩ := HAT.out w (Below.refl _ _) 0 hn
  have HZ0 := Lib.hid (HONE.out z0 hz0)
  clear hz0 HONE
  have hnI : ¬ (n : Int) < 1 := by omega
  have hn0 : (0 : Int) < (n : Int) := by omega
  go_enter Try.func30, Try.ntmps30
  rw [Addr.add_zero'] at c0
  go_wp2_with fail
  clear c0
  go_loopw [5, 6] (fun m x wr => ∃ (i : Nat) (M : Int), x = .int .i64 (i : Int) ∧ m = .int .i64 M ∧ 1 ≤ i ∧ i ≤ n ∧ RowKit.Hid (minU L X i = M) ∧ Below w.heap.size w wr) (fun _ x _ => n - (intOf x).toNat)
  case atStart => exact ⟨1, z0, rfl, rfl, by omega, hn, HZ0, Below.refl _ _⟩
  case round =>
    clear HZ0
    obtain ⟨i, M, rfl, rfl, h1, hi, hM, hb⟩ := hrel
    by_cases hlt : i < n
    · obtain ⟨x, z, hxe, hz, hc⟩ := HAT.out wr hb i hlt
      obtain rfl := Option.some.inj hxe
      have hiI : (i : Int) < (n : Int) := by omega
      obtain ⟨zi, rfl, hzi⟩ := HXI.out i z hz
      obtain ⟨mi, hmi, hml⟩ := HIN.out i
      rw [hM.out] at hmi
      subst hmi
      obtain ⟨l, l2, e1, e2, hk⟩ := HCL.out wr hb zi mi hzi hml
      have hnx := HNX.out i _ h1 hz
      rw [hM.out, Int.toNat_natCast, Int.toNat_natCast, e1, e2] at hnx
      clear hz e1 e2 hxe
      have HC2 := Lib.hid (fun W (h : Below wr.heap.size wr W) => (show W.cell? (x0.add i) = some (.int .i64 (zi : Int)) from (h.cell (World.block_lt_of_cell? wr _ hc)).trans hc))
      by_cases hq : l < l2
      · rw [if_pos hq] at hnx
        rw [cmp_lt hq] at hk
        have HN := Lib.hid hnx
        have hk := Lib.hid hk
        clear hnx hq
        go_wp2_with (first
          | (go_at_call 28; ((with_reducible refine hk.out.mono ?_); rintro e9 w1 ⟨rfl, b1⟩; have hc1 := HC2.out w1 b1)))
        go_roundw
        case rel => exact ⟨i + 1, (zi : Int), by go_num, rfl, by omega, by omega, HN, hb.trans (b1.mono hb.size)⟩
        case measure => simp [intOf]; omega
      · rw [if_neg hq] at hnx
        have hcg := cmp_ge (x := l) (y := l2) (by omega)
        generalize cmpI l l2 = CC at *
        have hcn : ¬ CC < 0 := by omega
        have HN := Lib.hid hnx
        have hk := Lib.hid hk
        clear hnx hq hcg
        go_wp2_with (first
          | (go_at_call 28; ((with_reducible refine hk.out.mono ?_); rintro e9 w1 ⟨rfl, b1⟩; have hc1 := HC2.out w1 b1)))
        go_roundw
        case rel => exact ⟨i + 1, (mi : Int), by go_num, rfl, by omega, by omega, HN, hb.trans (b1.mono hb.size)⟩
        case measure => simp [intOf]; omega
    · obtain rfl : i = n := by omega
      have hiI : ¬ (i : Int) < (i : Int) := by omega
      go_wp2_with fail
      go_ret
      exact ⟨by rw [hM.out]; rfl, hb⟩
set_option maxHeartbeats 4000000 in
set_option maxRecDepth 20000 in
theorem vicChoose_any (F : Nat → Prop) (S : Sv) (Z : List Zone) (C : Cnt) (E : Epo) (w : World) (hl : VList w F S Z C E) (hn : S.zN ≤ 1000) :
    Calls Try.prog 11 #[stV S] w fun r w' => r = .returned (.tuple #[.int .i64 (bestV (canS S Z C E) C.live Z.length).1, .bool (bestV (canS S Z C E) C.live Z.length).2]) ∧ Below w.heap.size w w' := by
  have K := SBox.start w S
  have HC := Lib.hid (fun W (q : Below w.heap.size w W) => vicCands_any _ S Z C E W (hl.same q) hn)
  unfold CandPost at HC
  have hX : ∀ z ∈ cands (canS S Z C E) S.zN, ∃ i : Nat, z = (i : Int) ∧ i < S.lN := fun z hz => by
    obtain ⟨i, _, rfl, hc⟩ := cands_in _ z hz
    have h9 := can_live hc
    have := hl.c.l.length
    exact ⟨i, rfl, by omega⟩
  have HM := Lib.hid (fun W (q : Below w.heap.size w W) (a : Option Addr) (n c : Nat) (G : Nat → Prop) (hp : W.heap[w.heap.size]? = some (stRow S)) (hx : IList W G a n c (cands (canS S Z C E) S.zN)) (h1 : 1 ≤ n) => vicMin_any _ _ S C.live _ a n c w.heap.size W (hl.same q).c.l hx hp h1 hX)
  unfold MinPost at HM
  rw [hl.zlen]
  have HNO := Lib.hid (@best_no (canS S Z C E) C.live S.zN)
  have HCO := Lib.hid (@best_cons (canS S Z C E) C.live S.zN)
  generalize bestV (canS S Z C E) C.live S.zN = B at *
  generalize cands (canS S Z C E) S.zN = X at *
  clear hl hX
  go_enter Try.func11, Try.ntmps11
  generalize hw0 : w.alloc (stRow S) = w0 at *
  go_upto_region 2 with (first
    | ((with_reducible refine Plan.load_lit 58 (.tmp 1) w.heap.size ?_ K.hs Try.underlying58 ?_ ?_ ?_); (· rfl); (· rfl); (· exact st_info); simp only [Act.put, List.setIfInBounds_toArray, List.set_cons_zero, List.set_cons_succ])
    | (go_at_call 27; ((with_reducible refine (HC.out _ K.hb).mono ?_); rintro r9 w1 ⟨a, n, c, rfl, hx, h1⟩; have K1 := K.on h1; clear K hw0 h1; have K := K1; clear K1)))
  have hln := hx.length
  have hcp := hx.cap
  unfold maxLen at hcp
  by_cases h0 : n = 0
  · subst h0
    have hB := HNO.out (List.length_eq_zero_iff.1 hln)
    subst hB
    clear HM HC hx hln
    go_wp2_with fail
    go_ret2
    exact ⟨rfl, K.hb⟩
  · have h0' : ((n : Int) == 0) = false := by simpa using h0
    have hMM := Lib.hid (HM.out w1 K.hb a n c _ K.hs hx (by omega))
    have hB : B = (minU C.live X n, true) := by
      cases hXc : X with
      | nil => rw [hXc] at hln; exact absurd hln.symm h0
      | cons x r =>
        rw [HCO.out x r hXc]
        have e : minU C.live (x :: r) n = minV C.live x r := by
          unfold minU
          rw [hXc] at hln
          rw [show (x :: r).getD 0 0 = x from rfl, show (x :: r).drop 1 = r from rfl, List.take_of_length_le (by simp at hln; omega)]
        rw [e]
    subst hB
    clear HM HC hx hln h0 HNO HCO
    go_wp2_with (first
      | (go_at_call 30; ((with_reducible refine hMM.out.mono ?_); rintro r9 w2 ⟨rfl, h1⟩; have K1 := K.on h1; clear K h1; have K := K1; clear K1)))
    go_ret2
    exact ⟨rfl, K.hb⟩
set_option maxHeartbeats 4000000 in
set_option maxRecDepth 20000 in
theorem vicDead_any (F : Nat → Prop) (S : Sv) (Z : List Zone) (C : Cnt) (E : Epo) (w : World) (hl : VList w F S Z C E) (hlo : ∀ (j : Nat) l, C.live[j]? = some l → -1000000 ≤ l) (hn : S.zN ≤ 1000) :
    Calls Try.prog 13 #[stV S] w fun r w' => r = .returned (.int .i64 (deadV (canS S Z C E) C.live S.cs Z.length)) ∧ Below w.heap.size w w' := by
  have K := SBox.start w S
  have HC := Lib.hid (fun W (q : Below w.heap.size w W) => vicCands_any _ S Z C E W (hl.same q) hn)
  unfold CandPost at HC
  have HEL := Lib.hid (fun W (q : Below w.heap.size w W) z (hz : z ∈ cands (canS S Z C E) S.zN) => (show ∃ (i : Nat) (x : Addr) (l : Int), z = (i : Int) ∧ i < S.lN ∧ S.lA = some x ∧ C.live.getD i 0 = l ∧ W.cell? (x.add i) = some (.int .i64 l) ∧ (3 ≤ S.cs ∧ S.cs ≤ 64) ∧ (-1000000 ≤ l ∧ l < S.cs - 1) from by
    obtain ⟨i, _, rfl, hc⟩ := cands_in _ z hz
    have h9 := can_live hc
    have h8 := hl.c.l.length
    obtain ⟨x, l, hA, e1, c1⟩ := (hl.c.same q).l.at' i (by omega)
    obtain ⟨hD, hlt⟩ := can_fit hc e1
    have hdb := data_bounds hD
    exact ⟨i, x, l, rfl, by omega, hA, by rw [List.getD_eq_getElem?_getD, e1]; rfl, c1, by omega, hlo i l e1, hlt⟩))
  have HLN := Lib.hid (cands_len (canS S Z C E) S.zN)
  rw [hl.zlen, dead_cands]
  generalize cands (canS S Z C E) S.zN = X at *
  clear hl hlo
  go_enter Try.func13, Try.ntmps13
  generalize hw0 : w.alloc (stRow S) = w0 at *
  go_wp2_with (first
    | ((with_reducible refine Plan.load_lit 58 (.tmp 1) w.heap.size ?_ K.hs Try.underlying58 ?_ ?_ ?_); (· rfl); (· rfl); (· exact st_info); simp only [Act.put, List.setIfInBounds_toArray, List.set_cons_zero, List.set_cons_succ])
    | (go_at_call 27; ((with_reducible refine (HC.out _ K.hb).mono ?_); rintro r9 w1 ⟨a, n, c, rfl, hx, h1⟩; have K1 := K.on h1; clear K hw0 h1; have K := K1; clear K1; have hln := hx.length; have hcp := hx.cap; unfold maxLen at hcp; have hXn := HLN.out)))
  have HAT := Lib.hid (fun W (h : Below w1.heap.size w1 W) i (hi : i < n) => (hx.same h).at' i hi)
  have HALL := Lib.hid (show X.take n = X from List.take_of_length_le (by omega))
  have hnn : n ≤ 1000 := by omega
  clear hx hln HC HLN hXn
  have HST := Lib.hid (fun (i : Nat) x (h : X[i]? = some x) => sum_next C.live S.cs h)
  go_loopw [3, 9] (fun s x wr => ∃ (j : Nat) (s0 : Int), x = .int .i64 (j : Int) ∧ s = .int .i64 s0 ∧ j ≤ n ∧ (0 ≤ s0 ∧ s0 ≤ (j : Int) * 2000000) ∧ RowKit.Hid (sumV C.live S.cs (X.take j) = s0) ∧ SBox w wr S ∧ Below w1.heap.size w1 wr) (fun _ x _ => n - (intOf x).toNat)
  case atStart => exact ⟨0, 0, rfl, rfl, by omega, ⟨by omega, by omega⟩, Lib.hid rfl, K, Below.refl _ _⟩
  case round =>
    clear K
    obtain ⟨j, s0, rfl, rfl, hj, ⟨hs1, hs2⟩, hS, K, hb⟩ := hrel
    by_cases hlt : j < n
    · obtain ⟨x, z, rfl, hz, hc⟩ := HAT.out wr hb j hlt
      have hjI : (j : Int) < (n : Int) := by omega
      obtain ⟨i, x2, l, rfl, hi, hA, hg, hc2, ⟨hc3, hc4⟩, hl1, hl2⟩ := HEL.out wr K.hb z (List.mem_of_getElem? hz)
      have hiI : (i : Int) < (S.lN : Int) := by omega
      have hst := HST.out j _ hz
      rw [hS.out, Int.toNat_natCast, hg] at hst
      have HN := Lib.hid hst
      have HR := Lib.hid (vicRecords_any S.cz S.cs S.cb S.cq S.cd S.ch hc3 hc4)
      unfold confV at HR
      have hF := fun W (k : SBox w W S) (k2 : Below wr.heap.size wr W) => (show W.heap[w.heap.size]? = some (stRow S) ∧ W.cell? ⟨w.heap.size, 11, none⟩ = some (.slice (some x2) S.lN S.lC) ∧ W.cell? (x2.add i) = some (.int .i64 l) from ⟨k.hs, by rw [← hA]; exact st_cell k.hs rfl, (k2.cell (World.block_lt_of_cell? wr _ hc2)).trans hc2⟩)
      have hw1 : IntKind.i64.wrap (S.cs - 1 - l) = S.cs - 1 - l := IntWalk.i64_in _ (by omega)
      have hw2 : IntKind.i64.wrap (s0 + (S.cs - 1 - l)) = s0 + (S.cs - 1 - l) := IntWalk.i64_in _ (by omega)
      clear hz hst hg hA hc2
      go_wp2_with fail
      refine Plan.start (fun W => W.heap[w.heap.size]? = some (stRow S) ∧ W.cell? ⟨w.heap.size, 11, none⟩ = some (.slice (some x2) S.lN S.lC) ∧ W.cell? (x2.add i) = some (.int .i64 l)) [(0, true), (1, true), (2, true), (4, true), (5, true), (6, true), (7, true), (8, true), (9, true), (3, false), (10, true), (11, true), (12, true)] (by kernel_rfl) (by kernel_rfl) (by kernel_rfl) (by kernel_rfl) (hF _ K.drew (Below.refl _ _).drew) ?_
      simp only [List.map_cons, List.map_nil, List.getElem?_toArray, List.getElem?_cons_zero, List.getElem?_cons_succ]
      repeat (first | (refine Plan.take ?_ (by rfl) ?_ ?_; rotate_left; (· rintro w9 ⟨u0, u1, u2⟩; go_simp; (try rw [if_neg (by omega)]); all_goals (with_reducible rfl)); simp only [Act.put, List.setIfInBounds_toArray, List.set_cons_zero, List.set_cons_succ]) | (refine Plan.pass (by rfl) ?_; simp only [Act.put, List.setIfInBounds_toArray, List.set_cons_zero, List.set_cons_succ]))
      refine Plan.take_mid 26 (.tmp 14) w.heap.size 0 _ [.int .i64 S.cz, .int .i64 S.cs, .int .i64 S.cb, .int .i64 S.cq, .int .i64 S.cd, .int .i64 S.ch] (by rfl) rfl (by rfl) (fun w9 h9 => h9.1) rfl Try.underlying26 rfl conf_info ?_
      simp only [Act.put, List.setIfInBounds_toArray, List.set_cons_zero, List.set_cons_succ]
      repeat (first | (refine Plan.take ?_ (by rfl) ?_ ?_; rotate_left; (· rintro w9 ⟨u0, u1, u2⟩; go_simp; (try rw [if_neg (by omega)]); all_goals (with_reducible rfl)); simp only [Act.put, List.setIfInBounds_toArray, List.set_cons_zero, List.set_cons_succ]) | (refine Plan.pass (by rfl) ?_; simp only [Act.put, List.setIfInBounds_toArray, List.set_cons_zero, List.set_cons_succ]))
      refine Plan.call (by rfl) 35 _ ?_ (HR.out _) ?_
      · go_simp
      rintro r9 w2 ⟨rfl, h2⟩
      have K2 := K.drew.on h2
      have b2 := (Below.refl wr.heap.size wr).drew.trans h2
      refine ⟨_, rfl, hF _ K2 b2, ?_⟩
      simp only [Act.put, List.setIfInBounds_toArray, List.set_cons_zero, List.set_cons_succ]
      repeat (first | (refine Plan.take ?_ (by rfl) ?_ ?_; rotate_left; (· rintro w9 ⟨u0, u1, u2⟩; go_simp; (try rw [if_neg (by omega)]); all_goals (with_reducible rfl)); simp only [Act.put, List.setIfInBounds_toArray, List.set_cons_zero, List.set_cons_succ]) | (refine Plan.pass (by rfl) ?_; simp only [Act.put, List.setIfInBounds_toArray, List.set_cons_zero, List.set_cons_succ]))
      refine Plan.ends ?_
      clear hF
      go_wp2_with fail
      go_roundw
      case rel => exact ⟨j + 1, s0 + (S.cs - 1 - l), by go_num, rfl, by omega, ⟨by omega, by omega⟩, Lib.hid (by rw [HN.out]; omega), K2, hb.trans (b2.mono hb.size)⟩
      case measure => simp [intOf]; omega
    · obtain rfl : j = n := by omega
      have hjI : ¬ (j : Int) < (j : Int) := by omega
      have hE := hS.out
      rw [HALL.out] at hE
      have HE := Lib.hid hE
      clear hE
      go_wp2_with fail
      go_ret
      exact ⟨by rw [HE.out]; rfl, K.hb⟩
theorem victimOk : VictimOk := ⟨vicUsed_any, vicCan_any, vicChoose_any, vicDead_any⟩
end Go.Proofs.Ythhggiifbldaeaa.Ents

/- The walk of the program's grown: a zone with one sector more. -/
namespace Go.Proofs.Ythhggiifbldaeaa
open Go.RowKit Plan ZnsMath

end Go.Proofs.Ythhggiifbldaeaa

/- The walk of the program's Append. -/
namespace Go.Proofs.Ythhggiifbldaeaa
open Go.RowKit Plan ZnsMath

theorem appended_sectors (z : Zone) (s : ByteArray) (size : Int) : (appended z s size).sectors = z.sectors ++ [s] := by
  unfold appended
  split <;> rfl
end Go.Proofs.Ythhggiifbldaeaa

/- The walks of the program's Read and New. -/
namespace Go.Proofs.Ythhggiifbldaeaa
open Go.RowKit Plan ZnsMath

theorem rights_empty (n : Nat) (size : Int) (h : 0 < size) : rightsB (List.replicate n empty) size = true := by
  unfold rightsB
  rw [List.all_eq_true]
  intro z hz
  obtain rfl := (List.mem_replicate.1 hz).2
  unfold rightB
  simp [empty, sizesB]
  omega
theorem counts_empty (n : Nat) : countO (List.replicate n empty) = 0 ∧ countA (List.replicate n empty) = 0 := by
  constructor <;> simp [countO, countA, empty, openB, activeB]
theorem newE_eq (zones size op act : Int) : newE zones size op act = if possibleB zones size op act = true then 0 else 11 := by
  unfold newE
  by_cases h : zones < 1 ∨ 32 < zones
  · rw [if_pos h, if_neg]
    unfold possibleB
    simp only [decide_eq_true_eq]
    omega
  · rw [if_neg h]
    have hc : configB (newD zones size op act) = possibleB zones size op act := by
      rw [configB_eq]
      simp only [newD, List.length_replicate]
      rw [Int.toNat_of_nonneg (by omega)]
    unfold checkE
    rw [hc]
    cases hp : possibleB zones size op act with
    | false => rfl
    | true =>
      unfold possibleB at hp
      simp only [decide_eq_true_eq] at hp
      have h2 := rights_empty zones.toNat size (by omega)
      have h3 := counts_empty zones.toNat
      rw [if_neg (by decide), if_pos rfl]
      rw [if_neg (by simp [newD, h2])]
      rw [if_neg]
      simp only [newD, h3.1, h3.2]
      omega
theorem refNew_any (zones size op act : Int) (w : World) :
    Calls Try.prog 16 #[.int .i64 zones, .int .i64 size, .int .i64 op, .int .i64 act] w
      (DevPost w (fun _ => False) (if newE zones size op act = 0 then zones.toNat else 0) (newR zones size op act) (newE zones size op act)) := by
  by_cases h : zones < 1 ∨ 32 < zones
  · have hE : newE zones size op act = 11 := by unfold newE; rw [if_pos h]
    have hR : newR zones size op act = zero := by unfold newR; rw [hE]; rfl
    rw [hR, hE]
    exact refNew_config zones size op act w h
  · obtain ⟨n, rfl⟩ : ∃ n : Nat, zones = (n : Int) := ⟨zones.toNat, by omega⟩
    rw [show (n : Int).toNat = n by simp]
    exact refNew_made n size op act w (by omega) (by omega)
end Go.Proofs.Ythhggiifbldaeaa

/- The walk of the laws' sanity check. -/
namespace Go.Proofs.Ythhggiifbldaeaa
open Go.RowKit Plan ZnsMath

theorem addr0 (a : Addr) : a.add 0 = a := by simp [Addr.add]
theorem ex_sector : ∃ S : ByteArray, S.size = 40 ∧ ∀ w, Calls Try.prog 19 #[.agg #[.int .i64 2, .int .i64 0, .int .i64 1, .int .i64 0, .string ⟨#[]⟩]] w fun e w' => e = .returned (.string S) ∧ Below w.heap.size w w' := by
  have hk : RecMath.checkE (mk 2 0 1 0 ⟨#[]⟩) = 0 := by rw [check_eq]; decide
  have hd := RecMath.enc_length hk
  have hs := sector_made 2 0 1 0 ⟨#[]⟩
  generalize RecMath.encL (mk 2 0 1 0 ⟨#[]⟩) = x at hd hs
  exact ⟨⟨x.toArray⟩, by simpa [ByteArray.size] using hd, hs⟩
end Go.Proofs.Ythhggiifbldaeaa

/- Lists of sectors behind empty ones that the call owns. -/
namespace Go.Proofs.Ythhggiifbldaeaa
open Go.RowKit Plan ZnsMath

theorem grown_same (w : World) (k : Option Nat) : w.grownBy w k := ⟨rfl, rfl, rfl, Nat.le_refl _, fun _ _ _ => rfl⟩
/-- a list behind an empty one that the call owns -/
theorem append_list {w : World} {ops : Array Oper} {rest : List Oper} {o : Oper} {a : Act} {Q : Exit → Act → World → Prop} (hgd : o.guard = none) (s x : Operand)
    (ho : o.op = .call { callee := .builtin .append, args := #[s, x], argTypes := #[67, 67] })
    (base : Nat) (v : Value) (hs : a.eval s = v) (hown : w.ownsRow base 9 1 v 0 []) (sa : Option Addr) (m c : Nat) (L : List ByteArray) (hx : a.eval x = .slice sa m c) (hl : IsStrs w sa m c L) (hm : m ≤ 1000000) (hbase : base ≤ w.heap.size)
    (h : ∀ v' w', w'.ownsRow base 9 1 v' m (strs L) → w.grownBy w' v.ownBlock → wpList Try.prog ops Q rest (a.put o.dst v') w') : wpList Try.prog ops Q (o :: rest) a w := by
  obtain ⟨i1, hi1, hy0, hy1, hy2⟩ := info_parts str_info
  cases sa with
  | none =>
    obtain ⟨rfl, rfl⟩ := hl.cap_le.2.2 rfl
    obtain rfl : L = [] := List.length_eq_zero_iff.1 hl.length
    exact wpList_append_own_none hgd s x 67 ho base 9 i1 1 Try.underlying67 hi1 v 0 [] hs hown hx (h v w hown (grown_same _ _))
  | some ad =>
    refine wpList_append_own w hgd s x 67 ho base 9 i1 _ 1 16 Try.underlying67 hi1 hy0 hy1 hy2 rfl (by decide) v 0 [] hs hown ad m c (strs L) hx (by rw [strs_length, hl.length]; omega) (strs_news hl) (strs_cells L) (by unfold maxLen; omega) (by omega) hbase ?_
    intro v' w' h1 h2 _
    rw [Nat.zero_add, List.nil_append] at h1
    exact h v' w' h1 h2
theorem append_one {w : World} {ops : Array Oper} {rest : List Oper} {o : Oper} {a : Act} {Q : Exit → Act → World → Prop} (hgd : o.guard = none) (p x : Operand)
    (ho : o.op = .call { callee := .builtin .append, args := #[p, x], argTypes := #[67, 67] })
    (base : Nat) (v : Value) (m : Nat) (L : List ByteArray) (hs : a.eval p = v) (hown : w.ownsRow base 9 1 v m (strs L)) (g : Nat) (s : ByteArray) (hx : a.eval x = .slice (some ⟨g, 0, none⟩) 1 1) (hc : w.cell? ⟨g, 0, none⟩ = some (.string s)) (hm : m ≤ 1000000) (hbase : base ≤ w.heap.size)
    (h : ∀ v' w', w'.ownsRow base 9 1 v' (m + 1) (strs (L ++ [s])) → w.grownBy w' v.ownBlock → wpList Try.prog ops Q rest (a.put o.dst v') w') : wpList Try.prog ops Q (o :: rest) a w := by
  obtain ⟨i1, hi1, hy0, hy1, hy2⟩ := info_parts str_info
  refine wpList_append_own w hgd p x 67 ho base 9 i1 _ 1 16 Try.underlying67 hi1 hy0 hy1 hy2 rfl (by decide) v m (strs L) hs hown ⟨g, 0, none⟩ 1 1 [.string s] hx rfl ?_ (by simp [Value.oneCell']) (by unfold maxLen; omega) (by omega) hbase ?_
  · intro j u hu
    have hj := (List.getElem?_eq_some_iff.1 hu).1
    obtain rfl : j = 0 := by simp at hj; omega
    obtain rfl : Value.string s = u := by simpa using hu
    rw [Addr.add_lit]
    exact hc
  · intro v' w' h1 h2 _
    exact h v' w' (by rw [strs_app]; exact h1) h2
/-- the store of a number -/
theorem run_store_int (w : World) (ty : TypeId) (b o : Nat) (k : IntKind) (n : Int) (hc : ∃ u, w.cell? ⟨b, o, none⟩ = some u) (hf : w.frozen? ⟨b, o, none⟩ = false) (hi : (Try.prog.info? ty).map (·.size) = some 1) :
    (storeVar ty ⟨b, o, none⟩ (.int k n)).run Try.prog w = .ok () (w.setCell ⟨b, o, none⟩ (.int k n)) := by
  obtain ⟨u, hu⟩ := hc
  cases hq : Try.prog.info? ty with
  | none => simp [hq] at hi
  | some i =>
    have hs : i.size = 1 := by simpa [hq] using hi
    have hst := run_store Try.prog w ⟨b, o, none⟩ (.int k n) .plain rfl
    rw [hu, hf] at hst
    simp only [Bool.false_eq_true, if_false] at hst
    have ha : (⟨b, o, none⟩ : Addr).add 0 = ⟨b, o, none⟩ := by rw [Addr.add_lit, Nat.add_zero]
    simp [storeVar, sizeOf, typeInfo, hq, Value.cells, hs, storeCells, ha, hst]
theorem wp_store_int {op : Oper} {a : Act} {w : World} {K : Act → World → Prop} {Q : Exit → Act → World → Prop} (ty : TypeId) (x y : Operand) (ho : op.op = .store ty x y)
    (b o : Nat) (k : IntKind) (n : Int) (hx : a.eval x = .pointer (some ⟨b, o, none⟩)) (hy : a.eval y = .int k n) (hc : ∃ u, w.cell? ⟨b, o, none⟩ = some u) (hf : w.frozen? ⟨b, o, none⟩ = false) (hi : (Try.prog.info? ty).map (·.size) = some 1)
    (h : K (a.put op.dst undef) (w.setCell ⟨b, o, none⟩ (.int k n))) : op.wp Try.prog a w K Q := by
  unfold Oper.wp execOp
  simp only [ho, hx, hy, Instr.storeAt, Instr.sureAddr, Sem.run_bind, Sem.run_pure, Result.andThen_ok, run_store_int w ty b o k n hc hf hi]
  exact h
theorem int_info1 : (Try.prog.info? 3).map (·.size) = some 1 := by kernel_rfl
/-- blocks below what the call owns stay -/
theorem row_grow {w w' : World} {B n k : Nat} {t : TypeId} {v : Value} {xs : List Value} {o : Obj} (ho : w.ownsRow B t 1 v n xs) (hg : w.grownBy w' v.ownBlock) (r : w.heap[k]? = some o) (hk : k < B) : w'.heap[k]? = some o :=
  (hg.block k (lt_of_block r) (fun e => by have := (ho.lt k e.symm).1; omega)).trans r
theorem strs_empty (w : World) {H : Nat} (hH : w.heap.size = H) : (w.alloc (.cells #[] 9)).ownsRow H 9 1 (.slice (some ⟨H, 0, none⟩) 0 0) 0 [] := by
  subst hH
  exact World.ownsRow_made (base := w.heap.size) (e := 9) (size := 1) w #[] 0 (Nat.le_refl _) (by unfold maxLen; decide) rfl
end Go.Proofs.Ythhggiifbldaeaa

/- The walk of the document's own Append to an open zone. -/
namespace Go.Proofs.Ythhggiifbldaeaa
open Go.RowKit Plan ZnsMath

theorem zone_small {D : Dev} {i sl : Nat} {z : Zone} (hc : checkE D = 0) (hzk : D.zones[i]? = some z) (hsl : z.sectors.length = sl) : sl ≤ 1000000 := by
  have hr := check_parts hc
  have h1 := config_parts hr.1
  have h2 := hr.2.1
  unfold rightsB at h2
  rw [List.all_eq_true] at h2
  have h3 := h2 z (List.mem_of_getElem? hzk)
  unfold rightB at h3
  simp only [Bool.and_eq_true, decide_eq_true_eq] at h3
  omega
end Go.Proofs.Ythhggiifbldaeaa
