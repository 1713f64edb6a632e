
/- The walk of LocksAlone, under the program's contracts. -/
import Derived.Test.YtoclcefnecghfaaLckSteps
import Derived.Test.YtoclcefnecghfaaBaseIdx
namespace Go.Proofs.Ytoclcefnecghfaa.Ents
open Go.RowKit Plan EntMath CntMath LckMath
theorem take_at {O : List Int} {q : Nat} {z t : Int} (hv : validK O = true) (hz : O[q]? = some z) (ht : 0 ≤ t) : takeB O (q : Int) t = decide (z = -1) ∧ takeL O (q : Int) t = if z = -1 then O.set q t else O := by
  have hq := (List.getElem?_eq_some_iff.1 hz).1
  have h1 : takeB O (q : Int) t = decide (z = -1) := by
    unfold takeB freeK
    rw [in_k.2 ⟨hv, by omega, by omega⟩, Int.toNat_natCast, getD_at hz, decide_eq_true ht, Bool.true_and, Bool.and_true]
  refine ⟨h1, ?_⟩
  unfold takeL
  rw [h1]
  by_cases h : z = -1
  · rw [if_pos h, if_pos (by simpa using h), Int.toNat_natCast]
  · rw [if_neg h, if_neg (by simpa using h)]
theorem give_at {O : List Int} {q : Nat} {z t : Int} (hv : validK O = true) (hz : O[q]? = some z) (ht : 0 ≤ t) : giveB O (q : Int) t = decide (z = t) ∧ giveL O (q : Int) t = if z = t then O.set q (-1) else O := by
  have hq := (List.getElem?_eq_some_iff.1 hz).1
  have h1 : giveB O (q : Int) t = decide (z = t) := by
    unfold giveB
    rw [in_k.2 ⟨hv, by omega, by omega⟩, Int.toNat_natCast, getD_at hz, decide_eq_true ht, Bool.true_and, Bool.true_and]
  refine ⟨h1, ?_⟩
  unfold giveL
  rw [h1]
  by_cases h : z = t
  · rw [if_pos h, if_pos (by simpa using h), Int.toNat_natCast]
  · rw [if_neg h, if_neg (by simpa using h)]
theorem valid_set {O : List Int} {q : Nat} {t : Int} (hv : validK O = true) (ht : -1 ≤ t) : validK (O.set q t) = true := by
  have h := valid_k.1 hv
  refine valid_k.2 ⟨fun z hz => ?_, by rw [List.length_set]; exact h.2⟩
  rcases List.mem_or_eq_of_mem_set hz with h1 | h1
  · exact h.1 z h1
  · omega
theorem held_all {O : List Int} {t : Int} {n : Nat} (hn : O.length = n) (ht : 0 ≤ t) : heldL O t = heldTo O t n := by
  unfold heldL
  rw [if_pos ht, hn]
theorem valid_rep {n : Nat} (h1 : 1 ≤ n) (h8 : n ≤ 8) : validK (List.replicate n (-1)) = true := valid_k.2 ⟨fun z hz => by have := List.eq_of_mem_replicate hz; omega, by rw [List.length_replicate]; omega⟩
/-- where LocksAlone stands -/
structure Alone (w W : World) (X g n : Nat) (O K : List Int) (a : Option Addr) (c : Nat) : Prop where
  hx : W.heap[X]? = some (lckRow a n c)
  hg : W.heap[g]? = some (intRow K)
  ll : IList W (fun b => b ≠ X ∧ b ≠ g) a n c O
  hb : Below w.heap.size w W
  hh : w.heap.size ≤ X ∧ w.heap.size ≤ g ∧ X ≠ g
theorem Alone.on {w W W' : World} {X g n : Nat} {O K : List Int} {a : Option Addr} {c : Nat} (A : Alone w W X g n O K a c) (h : Below W.heap.size W W') : Alone w W' X g n O K a c :=
  ⟨e_on h A.hx (e_lt A.hx), e_on h A.hg (e_lt A.hg), A.ll.on (Same.below h), A.hb.trans (h.mono A.hb.size), A.hh⟩
theorem Alone.drew {w W : World} {X g n : Nat} {O K : List Int} {a : Option Addr} {c : Nat} (A : Alone w W X g n O K a c) : Alone w W.drew X g n O K a c := A.on (Below.refl _ _).drew
theorem Alone.al {w W : World} {X g n : Nat} {O K : List Int} {a : Option Addr} {c : Nat} (A : Alone w W X g n O K a c) (p : Obj) : Alone w (W.alloc p) X g n O K a c := A.on ((Below.refl _ _).alloc (Nat.le_refl _) p)
theorem Alone.own {w W : World} {X g n : Nat} {O K : List Int} {a : Option Addr} {c : Nat} (A : Alone w W X g n O K a c) (K' : List Int) : Alone w (W.setRow g (intC K').toArray) X g n O K' a c :=
  ⟨(setRow_other _ _ _ _ A.hh.2.2).trans A.hx, setRow_heap _ _ _ _ _ _ A.hg, A.ll.on (Same.row (fun h => h.2 rfl) _), below_setRow A.hb A.hh.2.1 _, A.hh⟩
theorem Alone.put {w W : World} {X g n : Nat} {O K O' : List Int} {a a' : Option Addr} {c c' : Nat} (A : Alone w W X g n O K a c) (l : IList W (fun b => b ≠ X ∧ b ≠ g) a' n c' O') : Alone w (W.setRow X #[.slice a' n c']) X g n O' K a' c' :=
  ⟨setRow_heap _ _ _ _ _ _ A.hx, (setRow_other _ _ _ _ (Ne.symm A.hh.2.2)).trans A.hg, l.on (Same.row (fun h => h.1 rfl) _), below_setRow A.hb A.hh.1 _, A.hh⟩
theorem Alone.cell {w W : World} {X g n : Nat} {O K : List Int} {a : Option Addr} {c : Nat} (A : Alone w W X g n O K a c) {q : Nat} {z : Int} (hz : K[q]? = some z) : W.cell? ⟨g, q, none⟩ = some (.int .i64 z) := row_cell A.hg hz
/-- the list that a step leaves -/
theorem Alone.lck {w W W' : World} {X g n : Nat} {O K O' : List Int} {a a' : Option Addr} {c n' c' : Nat} (A : Alone w W X g n O K a c) (h : IList W' (Plus (fun b => (b ≠ X ∧ b ≠ g) ∧ b < W.heap.size) W.heap.size) a' n' c' O') (hO : O'.length = n) : n' = n ∧ IList W' (fun b => b ≠ X ∧ b ≠ g) a' n c' O' := by
  have e := h.length
  have e2 : n' = n := by omega
  subst e2
  refine ⟨rfl, h.mono fun b _ h => ?_⟩
  rcases h with h | h
  · exact h.1
  · have h1 := e_lt A.hx
    have h2 := e_lt A.hg
    exact ⟨by omega, by omega⟩
theorem set_rep {K : List Int} {n j : Nat} (hK : K.length = n) (hz : ∀ i : Nat, i < j → K[i]? = some (-1)) (hj : j < n) : ∀ i : Nat, i < j + 1 → (K.set j (-1))[i]? = some (-1) := by
  intro i hi
  rcases Nat.lt_or_ge i j with h | h
  · rw [List.getElem?_set_ne (by omega)]; exact hz i h
  · obtain rfl : i = j := by omega
    rw [List.getElem?_set_self (by omega)]
set_option maxHeartbeats 16000000 in
set_option maxRecDepth 20000 in
theorem lckAlone_any (H : LocksOk) (y : Int) (hy : 0 ≤ y ∧ y ≤ 255) (a : Option Addr) (l c : Nat) (zs : List Int) (w : World) (hl : IsRow .u16 w a l c zs) :
    Calls Try.prog 5 #[.int .u8 y, .slice a l c] w fun r w' => r = .returned (.bool true) ∧ Below w.heap.size w w' := by
  have HW := Lib.hid (fun W => lckAwake_any H W)
  by_cases hm : 80 < l
  · have d1 : decide ((80 : Int) < (l : Int)) = true := by simp; omega
    have d2 : decide (80 < l) = true := by simp; omega
    have d3 : (80 : Int) < (l : Int) := by omega
    go_enter Try.func5, Try.ntmps5
    go_wp2_with (first
      | (go_at_call 7; ((with_reducible refine (HW.out _).mono ?_); rintro r9 w6 ⟨rfl, hb⟩)))
    go_ret
    exact ⟨rfl, hb⟩
  · have d1 : decide ((80 : Int) < (l : Int)) = false := by simp; omega
    have d2 : decide (80 < l) = false := by simp; omega
    have d3 : ¬ (80 : Int) < (l : Int) := by omega
    obtain ⟨T, e1⟩ : ∃ T, y.tmod 8 = T := ⟨_, rfl⟩
    have eT : 0 ≤ T ∧ T ≤ 7 := by rw [← e1, Int.tmod_eq_emod_of_nonneg hy.1]; omega
    obtain ⟨n, e2⟩ : ∃ n : Nat, 1 + T = (n : Int) := ⟨(1 + T).toNat, by omega⟩
    have hn1 : 1 ≤ n := by omega
    have hn2 : n ≤ 8 := by omega
    have hnew := fun W => H.new (n : Int) W
    unfold LNewPost at hnew
    rw [show newK (n : Int) = List.replicate n (-1) from by unfold newK; rw [if_pos (by omega), Int.toNat_natCast], show newKE (n : Int) = 0 from if_pos (by omega)] at hnew
    have HN := Lib.hid hnew
    have hmk := fun w => run_make_row' (P := Try.prog) 22 3 (.int .i64 0) 8 Try.underlying22 int_row rfl .i64 .i64 n (by omega) (by omega) w
    clear hnew
    go_enter Try.func5, Try.ntmps5
    go_wp2_with (first
      | (go_at_call 8; ((with_reducible refine (HN.out _).mono ?_); rintro r9 w5 ⟨xa, xn, xc, rfl, lx, hb⟩; have exn := lx.length; rw [List.length_replicate] at exn; subst exn; clear HN)))
    rw [show (Obj.cells (madeCells #[.int .i64 0] n) 3) = intRow (List.replicate n 0) from zero_row n]
    have kX := hb.size
    have A : Alone w ((w5.alloc (lckRow xa n xc)).alloc (intRow (List.replicate n 0))) w5.heap.size (w5.heap.size + 1) n (List.replicate n (-1)) (List.replicate n 0) xa xc :=
      ⟨heap_first w5 _ _, heap_second w5 _ _, ((lx.mono (G := fun b => b ≠ w5.heap.size ∧ b ≠ w5.heap.size + 1) (fun b h _ => by omega)).on (Same.alloc w5 _)).on (Same.alloc _ _), (hb.alloc hb.size _).alloc (hb.alloc hb.size _).size _, by omega, by omega, by omega⟩
    generalize (w5.alloc (lckRow xa n xc)).alloc (intRow (List.replicate n 0)) = w0 at *
    generalize w5.heap.size + 1 = g at *
    generalize w5.heap.size = X at *
    have HWD := Lib.hid (fun (i : Nat) (hi : i < l) => word_at hl hi)
    clear hl hmk lx hb e1 eT kX
    go_loopw [9] (fun x wr => ∃ (j : Nat) (K : List Int), x = .int .i64 (j : Int) ∧ j ≤ n ∧ K.length = n ∧ RowKit.Hid (∀ i : Nat, i < j → K[i]? = some (-1)) ∧ Alone w wr X g n (List.replicate n (-1)) K xa xc) (fun x _ => n - (intOf x).toNat)
    case atStart => exact ⟨0, _, rfl, by omega, List.length_replicate .., Lib.hid (fun i hi => absurd hi (Nat.not_lt_zero _)), A⟩
    case round =>
      clear A
      obtain ⟨j, K, rfl, hj, hK, hz, A⟩ := hrel
      by_cases hlt : j < n
      · have hjI : (j : Int) < (n : Int) := by omega
        have hKj := A.cell (List.getElem?_eq_getElem (show j < K.length by omega))
        have hKf := free_row_c (o := j) A.hg
        have HZ := Lib.hid (set_rep hK hz.out hlt)
        have A2 := A.own (K.set j (-1))
        have E2 : wr.setCell ⟨g, j, none⟩ (.int .i64 (-1)) = wr.setRow g (intC (K.set j (-1))).toArray := by rw [setCell_eq_setRow _ _ _ _ _ _ _ A.hg, List.setIfInBounds_toArray, intC_set]
        rw [← E2] at A2
        have HA := Lib.hid A2
        clear A A2 E2 hz
        go_wp2_with fail
        go_roundw
        case rel => exact ⟨j + 1, K.set j (-1), by go_num, by omega, by rw [List.length_set, hK], HZ, HA.out⟩
        case measure => simp [intOf]; omega
      · obtain rfl : j = n := by omega
        have hjI : ¬ (j : Int) < (j : Int) := by omega
        have hKr := all_is hK hz.out
        subst hKr
        clear hz hK
        have HV0 := Lib.hid (valid_rep hn1 hn2)
        go_wp2_with fail
        go_loopw [10] (fun x wr => ∃ (i : Nat) (O : List Int) (xa : Option Addr) (xc : Nat), x = .int .i64 (i : Int) ∧ i ≤ l ∧ O.length = j ∧ RowKit.Hid (validK O = true) ∧ Alone w wr X g j O O xa xc) (fun x _ => l - (intOf x).toNat)
        case atStart => exact ⟨0, _, _, _, rfl, by omega, List.length_replicate .., HV0, A⟩
        case round =>
          clear A HV0
          obtain ⟨i, O, xa, xc, rfl, hi, hO, hv, A⟩ := hrel
          by_cases hlt : i < l
          · obtain ⟨x, B, rfl, hcw, hB1, hB2⟩ := HWD.out i hlt
            have HB := Lib.hid hcw
            have hc := hcw _ A.hb
            clear hcw
            have hlI : (i : Int) < (l : Int) := by omega
            go_wp2_with fail
            refine Plan.start (fun W => W.cell? (x.add i) = some (.int .u16 B)) [(0, true), (1, true), (2, true), (3, true), (4, true), (5, true), (6, true), (7, true), (8, true), (9, true), (10, true), (11, true), (12, true), (13, true), (14, true), (15, true), (16, true)] (by kernel_rfl) (by kernel_rfl) (by kernel_rfl) (by kernel_rfl) hc ?_
            simp only [List.map_cons, List.map_nil, List.getElem?_toArray, List.getElem?_cons_zero, List.getElem?_cons_succ]
            repeat (first | (refine Plan.take ?_ (by rfl) ?_ ?_; rotate_left; (· rintro w9 u0; go_simp; (try rw [if_neg (by omega)]); all_goals (with_reducible rfl)); simp only [Act.put, List.setIfInBounds_toArray, List.set_cons_zero, List.set_cons_succ]) | (refine Plan.pass (by rfl) ?_; simp only [Act.put, List.setIfInBounds_toArray, List.set_cons_zero, List.set_cons_succ]))
            refine Plan.ends ?_
            have A := A.drew
            have hc : wr.drew.cell? (x.add i) = _ := hc
            generalize wr.drew = w4 at *
            have p1 : IntKind.i64.wrap B = B := IntWalk.i64_in _ (by omega)
            obtain ⟨q, hq, hS⟩ : ∃ q : Nat, q < j ∧ (IntKind.i64.wrap B).tmod (j : Int) = (q : Int) := by
              rw [p1, Int.tmod_eq_emod_of_nonneg hB1]
              have h1 := Int.emod_nonneg B (show (j : Int) ≠ 0 by omega)
              have h2 := Int.emod_lt_of_pos B (show (0 : Int) < (j : Int) by omega)
              exact ⟨(B % (j : Int)).toNat, by omega, by omega⟩
            obtain ⟨t, ht, hT⟩ : ∃ t : Int, 0 ≤ t ∧ (IntKind.i64.wrap ((IntKind.i64.wrap B).tdiv (j : Int))).tmod 4 = t := by
              rw [p1, Int.tdiv_eq_ediv_of_nonneg hB1]
              have h1 : 0 ≤ B / (j : Int) := Int.ediv_nonneg hB1 (by omega)
              have h2 : B / (j : Int) ≤ B := Int.ediv_le_self _ hB1
              rw [IntWalk.i64_in _ (by omega)]
              exact ⟨_, by rw [Int.tmod_eq_emod_of_nonneg h1]; omega, rfl⟩
            rw [hS, hT]
            clear hS hT p1
            obtain ⟨z, hz⟩ : ∃ z, O[q]? = some z := ⟨_, List.getElem?_eq_getElem (by omega)⟩
            have kc := A.cell hz
            have hqI : (q : Int) < (j : Int) := by omega
            have HZ := Lib.hid hz
            cases hp : ((wrap64 ((B / (j : Int)).tdiv 4)).tmod 2 == 0)
            · obtain ⟨hr1, hr2⟩ := give_at hv.out hz ht
              have HT := Lib.hid (fun W => H.give (fun b => (b ≠ X ∧ b ≠ g) ∧ b < W.heap.size) O (q : Int) t xa j xc W)
              clear hz
              by_cases h1 : z = t
              · subst h1
                rw [if_pos rfl] at hr2
                rw [decide_eq_true rfl] at hr1
                have t1 : (z == z) = true := by simp
                rw [hr1, hr2] at HT
                have HLEN := Lib.hid (show ((O.set q (-1))).length = j from (List.length_set ..).trans hO)
                go_wp2_with (first
                  | ((with_reducible refine Plan.load_lit 24 (.tmp 6) (X) ?_ A.hx Try.underlying24 ?_ ?_ ?_); (· rfl); (· rfl); (· exact lck_info); simp only [Act.put, List.setIfInBounds_toArray, List.set_cons_zero, List.set_cons_succ])
                  | (go_at_call 14; ((with_reducible refine (HT.out _ (fun _ h => h.2) A.ll.cut (by omega)).mono ?_); rintro r9 w6 ⟨a3, n3, c3, rfl, l3, h9⟩; obtain ⟨e3, l4⟩ := A.lck l3 HLEN.out; subst e3; have A1 := (A.on h9).al (lckRow a3 n3 c3); have l5 := l4.on (Same.alloc w6 (lckRow a3 n3 c3)); have hM := heap_alloc_new w6 (lckRow a3 n3 c3); have hMX : X ≠ w6.heap.size ∧ g ≠ w6.heap.size := (by have h1 := e_lt A.hx; have h2 := e_lt A.hg; have h3 := h9.size; exact ⟨by omega, by omega⟩); clear A l3 l4 h9 HT hc kc; have A := A1; clear A1; have kc := A.cell HZ.out))
                  | ((with_reducible refine Put.idx_store_int 22 3 112 (.tmp 110) (.tmp 111) (.const (.int .i64 (-1))) g q .i64 (-1) ?_ ?_ ?_ ⟨_, kc⟩ (free_row_c A.hg) Put.int_info1 ?_); (· go_simp); (· rfl); (· rfl); intro w9 e9; have A1 := A.own (O.set q (-1)); rw [show (intC (O.set q (-1))).toArray = (intC O).toArray.setIfInBounds q (.int .i64 (-1)) from by rw [List.setIfInBounds_toArray, intC_set], ← setCell_eq_setRow _ _ _ _ _ _ _ A.hg, ← e9] at A1; have l6 := l5.on (Same.setCell (p := ⟨g, q, none⟩) (fun h => h.2 rfl) (.int .i64 (-1))); rw [← e9] at l6; have hM6 := (Below.heap_setCell _ ⟨g, q, none⟩ (.int .i64 (-1)) w6.heap.size (Ne.symm hMX.2)).trans hM; rw [← e9] at hM6; clear A kc e9 l5 hM; have A := A1; have l5 := l6; have hM := hM6; clear A1 l6 hM6; simp only [Act.put, List.setIfInBounds_toArray, List.set_cons_zero, List.set_cons_succ])
                  | ((with_reducible refine Plan.load_lit 24 (.tmp 15) (w6.heap.size) ?_ hM Try.underlying24 ?_ ?_ ?_); (· rfl); (· rfl); (· exact lck_info); simp only [Act.put, List.setIfInBounds_toArray, List.set_cons_zero, List.set_cons_succ])
                  | ((with_reducible refine Plan.store_lit 24 (.tmp 6) _ X ?_ A.hx ?_ ?_ ?_ ?_ ?_ ?_); rotate_left; (· rfl); (· rfl); (· exact lck_info); (· rfl); (· simp [Value.oneCell']); simp only [Act.put]))
                have A9 := A.put l5
                go_roundw
                case rel => exact ⟨i + 1, (O.set q (-1)), _, _, by go_num, by omega, HLEN.out, Lib.hid (valid_set hv.out (by omega)), A9⟩
                case measure => simp [intOf]; omega
              · have t1 : (z == t) = false := by simpa using h1
                rw [if_neg h1] at hr2
                rw [decide_eq_false h1] at hr1
                rw [hr1, hr2] at HT
                have HLEN := Lib.hid (show (O).length = j from hO)
                go_wp2_with (first
                  | ((with_reducible refine Plan.load_lit 24 (.tmp 6) (X) ?_ A.hx Try.underlying24 ?_ ?_ ?_); (· rfl); (· rfl); (· exact lck_info); simp only [Act.put, List.setIfInBounds_toArray, List.set_cons_zero, List.set_cons_succ])
                  | (go_at_call 14; ((with_reducible refine (HT.out _ (fun _ h => h.2) A.ll.cut (by omega)).mono ?_); rintro r9 w6 ⟨a3, n3, c3, rfl, l3, h9⟩; obtain ⟨e3, l4⟩ := A.lck l3 HLEN.out; subst e3; have A1 := (A.on h9).al (lckRow a3 n3 c3); have l5 := l4.on (Same.alloc w6 (lckRow a3 n3 c3)); have hM := heap_alloc_new w6 (lckRow a3 n3 c3); have hMX : X ≠ w6.heap.size ∧ g ≠ w6.heap.size := (by have h1 := e_lt A.hx; have h2 := e_lt A.hg; have h3 := h9.size; exact ⟨by omega, by omega⟩); clear A l3 l4 h9 HT hc kc; have A := A1; clear A1; have kc := A.cell HZ.out))
                  | ((with_reducible refine Plan.load_lit 24 (.tmp 15) (w6.heap.size) ?_ hM Try.underlying24 ?_ ?_ ?_); (· rfl); (· rfl); (· exact lck_info); simp only [Act.put, List.setIfInBounds_toArray, List.set_cons_zero, List.set_cons_succ])
                  | ((with_reducible refine Plan.store_lit 24 (.tmp 6) _ X ?_ A.hx ?_ ?_ ?_ ?_ ?_ ?_); rotate_left; (· rfl); (· rfl); (· exact lck_info); (· rfl); (· simp [Value.oneCell']); simp only [Act.put]))
                have A9 := A.put l5
                go_roundw
                case rel => exact ⟨i + 1, O, _, _, by go_num, by omega, HLEN.out, hv, A9⟩
                case measure => simp [intOf]; omega
            · obtain ⟨hr1, hr2⟩ := take_at hv.out hz ht
              have HT := Lib.hid (fun W => H.take (fun b => (b ≠ X ∧ b ≠ g) ∧ b < W.heap.size) O (q : Int) t xa j xc W)
              clear hz
              by_cases h1 : z = -1
              · subst h1
                rw [if_pos rfl] at hr2
                rw [decide_eq_true rfl] at hr1
                rw [hr1, hr2] at HT
                have HLEN := Lib.hid (show ((O.set q (t))).length = j from (List.length_set ..).trans hO)
                go_wp2_with (first
                  | ((with_reducible refine Plan.load_lit 24 (.tmp 6) (X) ?_ A.hx Try.underlying24 ?_ ?_ ?_); (· rfl); (· rfl); (· exact lck_info); simp only [Act.put, List.setIfInBounds_toArray, List.set_cons_zero, List.set_cons_succ])
                  | (go_at_call 13; ((with_reducible refine (HT.out _ (fun _ h => h.2) A.ll.cut (by omega)).mono ?_); rintro r9 w6 ⟨a3, n3, c3, rfl, l3, h9⟩; obtain ⟨e3, l4⟩ := A.lck l3 HLEN.out; subst e3; have A1 := (A.on h9).al (lckRow a3 n3 c3); have l5 := l4.on (Same.alloc w6 (lckRow a3 n3 c3)); have hM := heap_alloc_new w6 (lckRow a3 n3 c3); have hMX : X ≠ w6.heap.size ∧ g ≠ w6.heap.size := (by have h1 := e_lt A.hx; have h2 := e_lt A.hg; have h3 := h9.size; exact ⟨by omega, by omega⟩); clear A l3 l4 h9 HT hc kc; have A := A1; clear A1; have kc := A.cell HZ.out))
                  | ((with_reducible refine Put.idx_store_int 22 3 92 (.tmp 89) (.tmp 90) (.tmp 91) g q .i64 (t) ?_ ?_ ?_ ⟨_, kc⟩ (free_row_c A.hg) Put.int_info1 ?_); (· go_simp); (· rfl); (· rfl); intro w9 e9; have A1 := A.own (O.set q (t)); rw [show (intC (O.set q (t))).toArray = (intC O).toArray.setIfInBounds q (.int .i64 (t)) from by rw [List.setIfInBounds_toArray, intC_set], ← setCell_eq_setRow _ _ _ _ _ _ _ A.hg, ← e9] at A1; have l6 := l5.on (Same.setCell (p := ⟨g, q, none⟩) (fun h => h.2 rfl) (.int .i64 (t))); rw [← e9] at l6; have hM6 := (Below.heap_setCell _ ⟨g, q, none⟩ (.int .i64 (t)) w6.heap.size (Ne.symm hMX.2)).trans hM; rw [← e9] at hM6; clear A kc e9 l5 hM; have A := A1; have l5 := l6; have hM := hM6; clear A1 l6 hM6; simp only [Act.put, List.setIfInBounds_toArray, List.set_cons_zero, List.set_cons_succ])
                  | ((with_reducible refine Plan.load_lit 24 (.tmp 13) (w6.heap.size) ?_ hM Try.underlying24 ?_ ?_ ?_); (· rfl); (· rfl); (· exact lck_info); simp only [Act.put, List.setIfInBounds_toArray, List.set_cons_zero, List.set_cons_succ])
                  | ((with_reducible refine Plan.store_lit 24 (.tmp 6) _ X ?_ A.hx ?_ ?_ ?_ ?_ ?_ ?_); rotate_left; (· rfl); (· rfl); (· exact lck_info); (· rfl); (· simp [Value.oneCell']); simp only [Act.put]))
                have A9 := A.put l5
                go_roundw
                case rel => exact ⟨i + 1, (O.set q (t)), _, _, by go_num, by omega, HLEN.out, Lib.hid (valid_set hv.out (by omega)), A9⟩
                case measure => simp [intOf]; omega
              · have t1 : (z == -1) = false := by simpa using h1
                rw [if_neg h1] at hr2
                rw [decide_eq_false h1] at hr1
                rw [hr1, hr2] at HT
                have HLEN := Lib.hid (show (O).length = j from hO)
                go_wp2_with (first
                  | ((with_reducible refine Plan.load_lit 24 (.tmp 6) (X) ?_ A.hx Try.underlying24 ?_ ?_ ?_); (· rfl); (· rfl); (· exact lck_info); simp only [Act.put, List.setIfInBounds_toArray, List.set_cons_zero, List.set_cons_succ])
                  | (go_at_call 13; ((with_reducible refine (HT.out _ (fun _ h => h.2) A.ll.cut (by omega)).mono ?_); rintro r9 w6 ⟨a3, n3, c3, rfl, l3, h9⟩; obtain ⟨e3, l4⟩ := A.lck l3 HLEN.out; subst e3; have A1 := (A.on h9).al (lckRow a3 n3 c3); have l5 := l4.on (Same.alloc w6 (lckRow a3 n3 c3)); have hM := heap_alloc_new w6 (lckRow a3 n3 c3); have hMX : X ≠ w6.heap.size ∧ g ≠ w6.heap.size := (by have h1 := e_lt A.hx; have h2 := e_lt A.hg; have h3 := h9.size; exact ⟨by omega, by omega⟩); clear A l3 l4 h9 HT hc kc; have A := A1; clear A1; have kc := A.cell HZ.out))
                  | ((with_reducible refine Plan.load_lit 24 (.tmp 13) (w6.heap.size) ?_ hM Try.underlying24 ?_ ?_ ?_); (· rfl); (· rfl); (· exact lck_info); simp only [Act.put, List.setIfInBounds_toArray, List.set_cons_zero, List.set_cons_succ])
                  | ((with_reducible refine Plan.store_lit 24 (.tmp 6) _ X ?_ A.hx ?_ ?_ ?_ ?_ ?_ ?_); rotate_left; (· rfl); (· rfl); (· exact lck_info); (· rfl); (· simp [Value.oneCell']); simp only [Act.put]))
                have A9 := A.put l5
                go_roundw
                case rel => exact ⟨i + 1, O, _, _, by go_num, by omega, HLEN.out, hv, A9⟩
                case measure => simp [intOf]; omega
          · obtain rfl : i = l := by omega
            have hlI : ¬ (i : Int) < (i : Int) := by omega
            clear HWD
            have HHE := Lib.hid (fun (t : Int) (ht : 0 ≤ t) W a c => (fun h => (held_all hO ht) ▸ H.held (fun b => b ≠ X ∧ b ≠ g) O t a j c W h (by omega) : IList W (fun b => b ≠ X ∧ b ≠ g) a j c O → Calls Try.prog 15 #[lckV a j c, .int .i64 t] W (HeldPost W (heldTo O t j))))
            clear hv
            go_wp2_with fail
            go_loopw [17] (fun x wr => ∃ t : Nat, x = .int .i64 (t : Int) ∧ t ≤ 4 ∧ Alone w wr X g j O O xa xc) (fun x _ => 4 - (intOf x).toNat)
            case atStart => exact ⟨0, rfl, by omega, A⟩
            case round =>
              clear A
              obtain ⟨t, rfl, ht, A⟩ := hrel
              by_cases ht4 : t < 4
              · have htI : (t : Int) < 4 := by omega
                generalize wr = v0 at *
                have hM : v0.heap.size ≤ v0.heap.size := Nat.le_refl _
                obtain ⟨M, hMe⟩ : ∃ M, v0.heap.size = M := ⟨_, rfl⟩
                have HA := Lib.hid (fun W (h : Below M v0 W) => A.on (hMe ▸ h : Below v0.heap.size v0 W))
                have HNX := Lib.hid (fun i z (h : O[i]? = some z) => held_next (t := (t : Int)) h)
                have HBL := Lib.hid (held_len O (t : Int))
                have hb0 : Below M v0 v0 := Below.refl _ _
                have HM := Lib.hid hMe
                clear A hM hMe
                go_wp2_with fail
                go_loopw [18, 19] (fun v x wr => ∃ k : Nat, x = .int .i64 (k : Int) ∧ k ≤ j ∧ wr.ownsRow M 3 1 v (heldTo O (t : Int) k).length (intC (heldTo O (t : Int) k)) ∧ Below M v0 wr) (fun _ x _ => j - (intOf x).toNat)
                case atStart => exact ⟨0, rfl, by omega, World.ownsRow_nil _ _ _ _, hb0⟩
                case round =>
                  clear hb0
                  obtain ⟨k, rfl, hk, hv, hb⟩ := hrel
                  have A := HA.out _ hb
                  by_cases hlt : k < j
                  · have hkI : (k : Int) < (j : Int) := by omega
                    obtain ⟨z, hz⟩ : ∃ z, O[k]? = some z := ⟨_, List.getElem?_eq_getElem (by omega)⟩
                    have kc := A.cell hz
                    have N1 := HNX.out k z hz
                    have hbj := HBL.out k
                    generalize heldTo O (t : Int) k = Z at *
                    have hsz : M ≤ wr.heap.size := (by have := hb.size; have h := HM.out; omega)
                    clear hz
                    by_cases hq : z = (t : Int)
                    · have q1 : (z == (t : Int)) = true := by simpa using hq
                      rw [if_pos hq] at N1
                      have HN1 := Lib.hid N1
                      subst hq
                      have q2 := hb.alloc hsz (.cells #[.int .i64 (k : Int)] 3 (0, 0))
                      have hv1 := e_owns_on hv ((Below.refl _ _).alloc (Nat.le_refl _) (.cells #[.int .i64 (k : Int)] 3 (0, 0)))
                      have hs2 : M ≤ (wr.alloc (.cells #[.int .i64 (k : Int)] 3 (0, 0))).heap.size := by simp; omega
                      clear N1 A
                      go_wp2_with (first
                        | (at_builtin; refine append_int rfl (.tmp 129) (.tmp 131) rfl M _ _ Z rfl hv1 wr.heap.size (k : Int) rfl (heap_alloc_new wr (.cells #[.int .i64 (k : Int)] 3 (0, 0))) (by omega) hs2 ?_; intro g9 k9 w9 hown9 hgrow9 hat9))
                      have b9 := q2.grown hgrow9 hs2 (fun z9 h9 => (hv.lt z9 h9).1)
                      go_roundw
                      case rel => exact ⟨k + 1, by go_num, by omega, by rw [HN1.out, List.length_append]; exact hown9, b9⟩
                      case measure => simp [intOf]; omega
                    · have q1 : (z == (t : Int)) = false := by simpa using hq
                      rw [if_neg hq, List.append_nil] at N1
                      have HN1 := Lib.hid N1
                      clear N1 A
                      go_wp2_with fail
                      go_roundw
                      case rel => exact ⟨k + 1, by go_num, by omega, by rw [HN1.out]; exact hv, hb⟩
                      case measure => simp [intOf]; omega
                  · obtain rfl : k = j := by omega
                    have hkI : ¬ (k : Int) < (k : Int) := by omega
                    obtain ⟨a9, c9, rfl, l9⟩ := own_ilist (F := fun _ => True) hv (fun _ _ => trivial)
                    have HH := Lib.hid (HHE.out (t : Int) (by omega))
                    unfold HeldPost at HH
                    generalize (heldTo O (t : Int) k).length = m9 at *
                    generalize heldTo O (t : Int) k = Z at *
                    clear hv
                    go_wp2_with (first
                      | ((with_reducible refine Plan.load_lit 24 (.tmp 6) (X) ?_ A.hx Try.underlying24 ?_ ?_ ?_); (· rfl); (· rfl); (· exact lck_info); simp only [Act.put, List.setIfInBounds_toArray, List.set_cons_zero, List.set_cons_succ])
                      | (go_at_call 15; ((with_reducible refine (HH.out _ _ _ A.ll).mono ?_); rintro r9 w6 ⟨a5, n5, c5, rfl, l5, h9⟩; have A1 := A.on h9; have l9' := l9.on (Same.below h9); clear A l9; have A := A1; have l9 := l9'; clear A1 l9' h9))
                      | (go_at_call 10; ((with_reducible refine (sameInts_any _ _ _ _ _ _ _ _ _ _ l5 l9).mono ?_); rintro r9 w7 ⟨rfl, h9⟩; have A1 := A.on h9; clear A l9 l5; have A := A1; clear A1 h9)))
                    go_roundw
                    case rel => exact ⟨t + 1, by go_num, by omega, A⟩
                    case measure => simp [intOf]; omega
              · have htI : ¬ (t : Int) < 4 := by omega
                obtain rfl : t = 4 := by omega
                clear HHE
                have hb := A.hb
                go_wp2_with (first
                  | (go_at_call 7; ((with_reducible refine (HW.out _).mono ?_); rintro r9 w6 ⟨rfl, h9⟩; have hb := hb.trans (h9.mono hb.size))))
                go_ret
                exact ⟨rfl, hb⟩
end Go.Proofs.Ytoclcefnecghfaa.Ents
