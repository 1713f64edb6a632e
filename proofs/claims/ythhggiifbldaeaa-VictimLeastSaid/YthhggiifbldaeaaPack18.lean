/- Texts that belong together, part 18. -/
import Derived.Test.YthhggiifbldaeaaPack17

/- The walk of the document's Choose of victims. -/
namespace Go.Proofs.Ythhggiifbldaeaa.VicMath
open ZnsMath CntMath EpoMath
theorem can_live {D : Int → Bool} {Z : List Zone} {C : Cnt} {R : List Ret} {h k sz z : Int} (hc : canV D Z C R h k sz z = true) : z < (C.live.length : Int) := by
  by_cases hl : (C.live.length : Int) ≤ z
  · rw [can_no (.inr (.inr (.inl hl)))] at hc
    cases hc
  · omega
theorem best_in {can : Int → Bool} {L : List Int} : ∀ j : Nat, (bestV can L j).2 = true → ∃ i : Nat, i < j ∧ (bestV can L j).1 = (i : Int) ∧ can (i : Int) = true
  | 0, h => by cases h
  | j + 1, h => by
    unfold bestV at h ⊢
    simp only at h ⊢
    split
    · rename_i hc
      rw [Bool.and_eq_true] at hc
      exact ⟨j, by omega, rfl, hc.1⟩
    · rename_i hc
      rw [if_neg hc] at h
      obtain ⟨i, h1, h2, h3⟩ := best_in j h
      exact ⟨i, by omega, h2, h3⟩
theorem best_skip {can : Int → Bool} {L : List Int} {j : Nat} {b : Int × Bool} (hb : bestV can L j = b) (hc : can (j : Int) = false) : bestV can L (j + 1) = b := by
  unfold bestV
  simp [hc, hb]
theorem best_first {can : Int → Bool} {L : List Int} {j : Nat} {x : Int} (hb : bestV can L j = (x, false)) (hc : can (j : Int) = true) : bestV can L (j + 1) = ((j : Int), true) := by
  unfold bestV
  simp [hc, hb]
theorem best_less {can : Int → Bool} {L : List Int} {j i : Nat} {l l' : Int} (hb : bestV can L j = ((i : Int), true)) (hc : can (j : Int) = true) (hl : L[j]? = some l) (hl' : L[i]? = some l') (h : l < l') : bestV can L (j + 1) = ((j : Int), true) := by
  unfold bestV
  simp [hc, hb, hl, hl', h]
theorem best_keep {can : Int → Bool} {L : List Int} {j i : Nat} {l l' : Int} (hb : bestV can L j = ((i : Int), true)) (hl : L[j]? = some l) (hl' : L[i]? = some l') (h : ¬ l < l') : bestV can L (j + 1) = ((i : Int), true) := by
  unfold bestV
  simp [hb, hl, hl', h]
end Go.Proofs.Ythhggiifbldaeaa.VicMath
namespace Go.Proofs.Ythhggiifbldaeaa.Ents
open Go.RowKit Plan ZnsMath EntMath CntMath EpoMath LayMath VicMath
/-- can a zone of a state be a victim -/
def canS (S : Sv) (Z : List Zone) (C : Cnt) (E : Epo) (z : Int) : Bool := canV (isN S.cz S.cs S.cb S.cq S.cd S.ch) Z C E.zones S.h S.k S.cs z
set_option maxHeartbeats 16000000 in
set_option maxRecDepth 40000 in
theorem refChoose_any (F : Nat → Prop) (S : Sv) (Z : List Zone) (C : Cnt) (E : Epo) (w : World) (hl : VList w F S Z C E) :
    Calls Try.prog 22 #[stV S] w fun r w' => r = .returned (.tuple #[.int .i64 (bestV (canS S Z C E) C.live Z.length).1, .bool (bestV (canS S Z C E) C.live Z.length).2]) ∧ Below w.heap.size w w' := by
  have K := SBox.start w S
  have HC := Lib.hid (fun z W (q : Below w.heap.size w W) => refCan_any _ S Z C E z W (hl.same q))
  have HAT := Lib.hid (fun W (q : Below w.heap.size w W) i (hi : i < S.lN) => (hl.c.same q).l.at' i hi)
  have hcl := fun z (hc : canS S Z C E z = true) => can_live hc
  have hzl := hl.zlen
  have hll := hl.c.l.length
  have hcap : S.zN ≤ 9223372036854775807 := by
    rcases hl.z with ⟨_, h1, _⟩ | ⟨_, _, h1, h2, _⟩
    · omega
    · unfold maxLen at h2; omega
  rw [hll] at hcl
  rw [hzl]
  change RowKit.Hid (∀ z W, Below w.heap.size w W → Calls Try.prog 23 #[stV S, .int .i64 z] W fun r w' => r = .returned (.bool (canS S Z C E z)) ∧ Below W.heap.size W w') at HC
  generalize canS S Z C E = can at *
  have HCL := Lib.hid hcl
  have HIN := Lib.hid (@best_in can C.live)
  clear hl hcl hzl hll
  generalize hlv : C.live = L at *
  clear hlv
  go_enter Try.func22, Try.ntmps22
  generalize hw0 : w.alloc (stRow S) = w0 at *
  go_wp2_with fail
  clear hw0
  go_loopw [4, 5, 6] (fun A O x wr => ∃ (j : Nat) (b : Int) (o : Bool), x = .int .i64 (j : Int) ∧ j ≤ S.zN ∧ A = .int .i64 b ∧ O = .bool o ∧ RowKit.Hid (bestV can L j = (b, o)) ∧ SBox w wr S) (fun _ _ x _ => S.zN - (intOf x).toNat)
  case atStart => exact ⟨0, 0, false, rfl, by omega, rfl, rfl, Lib.hid rfl, K⟩
  case round =>
    clear K
    obtain ⟨j, b, o, rfl, hj, rfl, rfl, hB, K⟩ := hrel
    have v9 : wr.cell? ⟨w.heap.size, 9, none⟩ = some (.slice S.zA S.zN S.zC) := st_cell K.hs rfl
    by_cases hlt : j < S.zN
    · have hjI : (j : Int) < (S.zN : Int) := by omega
      have HCJ := Lib.hid (HC.out (j : Int))
      cases hc : can (j : Int)
      · rw [hc] at HCJ
        have HN := Lib.hid (best_skip hB.out hc)
        clear hc
        go_wp2_with fail
        have hF := fun W (k : SBox w W S) => (show W.heap[w.heap.size]? = some (stRow S) from k.hs)
        refine Plan.start (fun W => W.heap[w.heap.size]? = some (stRow S)) [(0, true), (1, true), (2, false), (3, true), (4, true), (5, true), (6, true), (7, true), (8, true), (9, true), (10, true), (11, true), (12, true), (13, true), (14, true), (15, true), (16, true), (17, true), (18, true), (19, true), (20, true), (21, true)] (by kernel_rfl) (by kernel_rfl) (by kernel_rfl) (by kernel_rfl) (hF _ K.drew) ?_
        simp only [List.map_cons, List.map_nil, List.getElem?_toArray, List.getElem?_cons_zero, List.getElem?_cons_succ]
        refine Plan.take_load 58 (.tmp 1) w.heap.size _ (by rfl) rfl (by rfl) (fun w9 h9 => h9) Try.underlying58 rfl st_info ?_
        simp only [Act.put, List.setIfInBounds_toArray, List.set_cons_zero, List.set_cons_succ]
        repeat (first | (refine Plan.take ?_ (by rfl) ?_ ?_; rotate_left; (· rintro w9 u0; go_simp; (try rw [if_neg (by omega)]); all_goals (with_reducible rfl)); simp only [Act.put, List.setIfInBounds_toArray, List.set_cons_zero, List.set_cons_succ]) | (refine Plan.pass (by rfl) ?_; simp only [Act.put, List.setIfInBounds_toArray, List.set_cons_zero, List.set_cons_succ]))
        refine Plan.call (by rfl) 23 _ ?_ (HCJ.out _ K.drew.hb) ?_
        · go_simp
        rintro r9 w2 ⟨rfl, h2⟩
        have K2 := K.drew.on h2
        refine ⟨_, rfl, hF _ K2, ?_⟩
        simp only [Act.put, List.setIfInBounds_toArray, List.set_cons_zero, List.set_cons_succ]
        repeat (first | (refine Plan.take ?_ (by rfl) ?_ ?_; rotate_left; (· rintro w9 u0; go_simp; (try rw [if_neg (by omega)]); all_goals (with_reducible rfl)); simp only [Act.put, List.setIfInBounds_toArray, List.set_cons_zero, List.set_cons_succ]) | (refine Plan.pass (by rfl) ?_; simp only [Act.put, List.setIfInBounds_toArray, List.set_cons_zero, List.set_cons_succ]))
        refine Plan.ends ?_
        clear hF v9
        go_wp2_with fail
        go_roundw
        case rel => exact ⟨j + 1, _, _, by go_num, by omega, rfl, rfl, HN, K2⟩
        case measure => simp [intOf]; omega
      · rw [hc] at HCJ
        have hjl : j < S.lN := by have := HCL.out (j : Int) hc; omega
        have hjL : (j : Int) < (S.lN : Int) := by omega
        obtain ⟨xl, l, hlA, hlz, _⟩ := HAT.out wr K.hb j hjl
        have HL := Lib.hid (fun W (q : Below w.heap.size w W) => (show W.cell? (xl.add j) = some (.int .i64 l) from by obtain ⟨x', r', e1, e2, e3⟩ := HAT.out W q j hjl; rw [hlA] at e1; obtain rfl := Option.some.inj e1; rw [hlz] at e2; obtain rfl := Option.some.inj e2; exact e3))
        cases o
        · have HN := Lib.hid (best_first hB.out hc)
          clear hlA hlz HL hjl
          clear hc
          go_wp2_with fail
          have hF := fun W (k : SBox w W S) => (show W.heap[w.heap.size]? = some (stRow S) from k.hs)
          refine Plan.start (fun W => W.heap[w.heap.size]? = some (stRow S)) [(0, true), (1, true), (2, false), (3, true), (4, true), (5, true), (6, true), (7, true), (8, true), (9, true), (10, true), (11, true), (12, true), (13, true), (14, true), (15, true), (16, true), (17, true), (18, true), (19, true), (20, true), (21, true)] (by kernel_rfl) (by kernel_rfl) (by kernel_rfl) (by kernel_rfl) (hF _ K.drew) ?_
          simp only [List.map_cons, List.map_nil, List.getElem?_toArray, List.getElem?_cons_zero, List.getElem?_cons_succ]
          refine Plan.take_load 58 (.tmp 1) w.heap.size _ (by rfl) rfl (by rfl) (fun w9 h9 => h9) Try.underlying58 rfl st_info ?_
          simp only [Act.put, List.setIfInBounds_toArray, List.set_cons_zero, List.set_cons_succ]
          repeat (first | (refine Plan.take ?_ (by rfl) ?_ ?_; rotate_left; (· rintro w9 u0; go_simp; (try rw [if_neg (by omega)]); all_goals (with_reducible rfl)); simp only [Act.put, List.setIfInBounds_toArray, List.set_cons_zero, List.set_cons_succ]) | (refine Plan.pass (by rfl) ?_; simp only [Act.put, List.setIfInBounds_toArray, List.set_cons_zero, List.set_cons_succ]))
          refine Plan.call (by rfl) 23 _ ?_ (HCJ.out _ K.drew.hb) ?_
          · go_simp
          rintro r9 w2 ⟨rfl, h2⟩
          have K2 := K.drew.on h2
          refine ⟨_, rfl, hF _ K2, ?_⟩
          simp only [Act.put, List.setIfInBounds_toArray, List.set_cons_zero, List.set_cons_succ]
          repeat (first | (refine Plan.take ?_ (by rfl) ?_ ?_; rotate_left; (· rintro w9 u0; go_simp; (try rw [if_neg (by omega)]); all_goals (with_reducible rfl)); simp only [Act.put, List.setIfInBounds_toArray, List.set_cons_zero, List.set_cons_succ]) | (refine Plan.pass (by rfl) ?_; simp only [Act.put, List.setIfInBounds_toArray, List.set_cons_zero, List.set_cons_succ]))
          refine Plan.ends ?_
          clear hF v9
          go_wp2_with fail
          go_roundw
          case rel => exact ⟨j + 1, _, _, by go_num, by omega, rfl, rfl, HN, K2⟩
          case measure => simp [intOf]; omega
        · obtain ⟨i, hi, hbi, hci⟩ := HIN.out j (by rw [hB.out])
          rw [hB.out] at hbi
          simp only at hbi
          subst hbi
          have hil : i < S.lN := by have := HCL.out (i : Int) hci; omega
          have hiL : (i : Int) < (S.lN : Int) := by omega
          obtain ⟨xl2, l2, hlA2, hlz2, _⟩ := HAT.out wr K.hb i hil
          rw [hlA] at hlA2
          obtain rfl := Option.some.inj hlA2
          have HL2 := Lib.hid (fun W (q : Below w.heap.size w W) => (show W.cell? (xl.add i) = some (.int .i64 l2) from by obtain ⟨x', r', e1, e2, e3⟩ := HAT.out W q i hil; rw [hlA] at e1; obtain rfl := Option.some.inj e1; rw [hlz2] at e2; obtain rfl := Option.some.inj e2; exact e3))
          by_cases hq : l < l2
          · have d1 : decide (l < l2) = true := by simpa using hq
            have HN := Lib.hid (best_less hB.out hc hlz hlz2 hq)
            replace hlA := Lib.hid hlA
            clear hlA2 hlz hlz2 hjl hil hq
            clear hc
            go_wp2_with fail
            have hF := fun W (k : SBox w W S) => (show W.heap[w.heap.size]? = some (stRow S) ∧ W.cell? ⟨w.heap.size, 11, none⟩ = some (.slice (some xl) S.lN S.lC) ∧ W.cell? (xl.add j) = some (.int .i64 l) ∧ W.cell? (xl.add i) = some (.int .i64 l2) from ⟨k.hs, by rw [← hlA.out]; exact st_cell k.hs rfl, HL.out W k.hb, HL2.out W k.hb⟩)
            refine Plan.start (fun W => W.heap[w.heap.size]? = some (stRow S) ∧ W.cell? ⟨w.heap.size, 11, none⟩ = some (.slice (some xl) S.lN S.lC) ∧ W.cell? (xl.add j) = some (.int .i64 l) ∧ W.cell? (xl.add i) = some (.int .i64 l2)) [(0, true), (1, true), (2, false), (3, true), (4, true), (5, true), (6, true), (7, true), (8, true), (9, true), (10, true), (11, true), (12, true), (13, true), (14, true), (15, true), (16, true), (17, true), (18, true), (19, true), (20, true), (21, true)] (by kernel_rfl) (by kernel_rfl) (by kernel_rfl) (by kernel_rfl) (hF _ K.drew) ?_
            simp only [List.map_cons, List.map_nil, List.getElem?_toArray, List.getElem?_cons_zero, List.getElem?_cons_succ]
            refine Plan.take_load 58 (.tmp 1) w.heap.size _ (by rfl) rfl (by rfl) (fun w9 h9 => h9.1) Try.underlying58 rfl st_info ?_
            simp only [Act.put, List.setIfInBounds_toArray, List.set_cons_zero, List.set_cons_succ]
            repeat (first | (refine Plan.take ?_ (by rfl) ?_ ?_; rotate_left; (· rintro w9 ⟨u0, u1, u2, u3⟩; go_simp; (try rw [if_neg (by omega)]); all_goals (with_reducible rfl)); simp only [Act.put, List.setIfInBounds_toArray, List.set_cons_zero, List.set_cons_succ]) | (refine Plan.pass (by rfl) ?_; simp only [Act.put, List.setIfInBounds_toArray, List.set_cons_zero, List.set_cons_succ]))
            refine Plan.call (by rfl) 23 _ ?_ (HCJ.out _ K.drew.hb) ?_
            · go_simp
            rintro r9 w2 ⟨rfl, h2⟩
            have K2 := K.drew.on h2
            refine ⟨_, rfl, hF _ K2, ?_⟩
            simp only [Act.put, List.setIfInBounds_toArray, List.set_cons_zero, List.set_cons_succ]
            repeat (first | (refine Plan.take ?_ (by rfl) ?_ ?_; rotate_left; (· rintro w9 ⟨u0, u1, u2, u3⟩; go_simp; (try rw [if_neg (by omega)]); all_goals (with_reducible rfl)); simp only [Act.put, List.setIfInBounds_toArray, List.set_cons_zero, List.set_cons_succ]) | (refine Plan.pass (by rfl) ?_; simp only [Act.put, List.setIfInBounds_toArray, List.set_cons_zero, List.set_cons_succ]))
            refine Plan.ends ?_
            clear hF v9
            go_wp2_with fail
            go_roundw
            case rel => exact ⟨j + 1, _, _, by go_num, by omega, rfl, rfl, HN, K2⟩
            case measure => simp [intOf]; omega
          · have d1 : decide (l < l2) = false := by simpa using hq
            have HN := Lib.hid (best_keep (can := can) hB.out hlz hlz2 hq)
            replace hlA := Lib.hid hlA
            clear hlA2 hlz hlz2 hjl hil hq
            clear hc
            go_wp2_with fail
            have hF := fun W (k : SBox w W S) => (show W.heap[w.heap.size]? = some (stRow S) ∧ W.cell? ⟨w.heap.size, 11, none⟩ = some (.slice (some xl) S.lN S.lC) ∧ W.cell? (xl.add j) = some (.int .i64 l) ∧ W.cell? (xl.add i) = some (.int .i64 l2) from ⟨k.hs, by rw [← hlA.out]; exact st_cell k.hs rfl, HL.out W k.hb, HL2.out W k.hb⟩)
            refine Plan.start (fun W => W.heap[w.heap.size]? = some (stRow S) ∧ W.cell? ⟨w.heap.size, 11, none⟩ = some (.slice (some xl) S.lN S.lC) ∧ W.cell? (xl.add j) = some (.int .i64 l) ∧ W.cell? (xl.add i) = some (.int .i64 l2)) [(0, true), (1, true), (2, false), (3, true), (4, true), (5, true), (6, true), (7, true), (8, true), (9, true), (10, true), (11, true), (12, true), (13, true), (14, true), (15, true), (16, true), (17, true), (18, true), (19, true), (20, true), (21, true)] (by kernel_rfl) (by kernel_rfl) (by kernel_rfl) (by kernel_rfl) (hF _ K.drew) ?_
            simp only [List.map_cons, List.map_nil, List.getElem?_toArray, List.getElem?_cons_zero, List.getElem?_cons_succ]
            refine Plan.take_load 58 (.tmp 1) w.heap.size _ (by rfl) rfl (by rfl) (fun w9 h9 => h9.1) Try.underlying58 rfl st_info ?_
            simp only [Act.put, List.setIfInBounds_toArray, List.set_cons_zero, List.set_cons_succ]
            repeat (first | (refine Plan.take ?_ (by rfl) ?_ ?_; rotate_left; (· rintro w9 ⟨u0, u1, u2, u3⟩; go_simp; (try rw [if_neg (by omega)]); all_goals (with_reducible rfl)); simp only [Act.put, List.setIfInBounds_toArray, List.set_cons_zero, List.set_cons_succ]) | (refine Plan.pass (by rfl) ?_; simp only [Act.put, List.setIfInBounds_toArray, List.set_cons_zero, List.set_cons_succ]))
            refine Plan.call (by rfl) 23 _ ?_ (HCJ.out _ K.drew.hb) ?_
            · go_simp
            rintro r9 w2 ⟨rfl, h2⟩
            have K2 := K.drew.on h2
            refine ⟨_, rfl, hF _ K2, ?_⟩
            simp only [Act.put, List.setIfInBounds_toArray, List.set_cons_zero, List.set_cons_succ]
            repeat (first | (refine Plan.take ?_ (by rfl) ?_ ?_; rotate_left; (· rintro w9 ⟨u0, u1, u2, u3⟩; go_simp; (try rw [if_neg (by omega)]); all_goals (with_reducible rfl)); simp only [Act.put, List.setIfInBounds_toArray, List.set_cons_zero, List.set_cons_succ]) | (refine Plan.pass (by rfl) ?_; simp only [Act.put, List.setIfInBounds_toArray, List.set_cons_zero, List.set_cons_succ]))
            refine Plan.ends ?_
            clear hF v9
            go_wp2_with fail
            go_roundw
            case rel => exact ⟨j + 1, _, _, by go_num, by omega, rfl, rfl, HN, K2⟩
            case measure => simp [intOf]; omega
    · obtain rfl : j = S.zN := by omega
      have hjI : ¬ ((S.zN : Nat) : Int) < ((S.zN : Nat) : Int) := by omega
      go_wp2_with fail
      go_ret2
      exact ⟨by rw [hB.out]; rfl, K.hb⟩
end Go.Proofs.Ythhggiifbldaeaa.Ents

/- The walks of the document's Dead and Used of victims. -/
namespace Go.Proofs.Ythhggiifbldaeaa.VicMath
open ZnsMath CntMath EpoMath
theorem can_fit {D : Int → Bool} {Z : List Zone} {C : Cnt} {R : List Ret} {h k sz : Int} {j : Nat} {l : Int} (hc : canV D Z C R h k sz (j : Int) = true) (hl : C.live[j]? = some l) : D (j : Int) = true ∧ l < sz - 1 := by
  unfold canV at hc
  rw [Bool.and_eq_true] at hc
  obtain ⟨h1, h2⟩ := hc
  rw [Bool.and_eq_true, Bool.and_eq_true, Bool.and_eq_true] at h1
  refine ⟨h1.1.1.1, ?_⟩
  rw [Int.toNat_natCast, hl] at h2
  split at h2
  · rename_i y l' p e1 e2 e3
    obtain rfl := Option.some.inj e2
    unfold fitV at h2
    rw [Bool.and_eq_true] at h2
    exact of_decide_eq_true h2.2
  · cases h2
theorem dead_bound {can : Int → Bool} {L : List Int} {sz : Int} (hsz : sz ≤ 64) (hf : ∀ (j : Nat) l, can (j : Int) = true → L[j]? = some l → (j : Int) < 32 ∧ l < sz - 1 ∧ -1000000 ≤ l) (hd : ∀ j : Nat, can (j : Int) = true → j < L.length) :
    ∀ j : Nat, 0 ≤ deadV can L sz j ∧ deadV can L sz j ≤ (Nat.min j 32 : Nat) * 1000100
  | 0 => ⟨Int.le_refl _, by show (0 : Int) ≤ _; omega⟩
  | j + 1 => by
    obtain ⟨h1, h2⟩ := dead_bound hsz hf hd j
    have hmin : (Nat.min j 32 : Nat) ≤ (Nat.min (j + 1) 32 : Nat) := Nat.le_min.2 ⟨Nat.le_succ_of_le (Nat.min_le_left _ _), Nat.min_le_right _ _⟩
    unfold deadV
    split
    · rename_i hc
      have hj := hd j hc
      obtain ⟨h3, h4, h5⟩ := hf j _ hc (List.getElem?_eq_getElem hj)
      have hg : L.getD j 0 = L[j] := by rw [List.getD_eq_getElem?_getD, List.getElem?_eq_getElem hj]; rfl
      rw [hg]
      have e1 : (Nat.min j 32 : Nat) = j := Nat.min_eq_left (by omega)
      have e2 : (Nat.min (j + 1) 32 : Nat) = j + 1 := Nat.min_eq_left (by omega)
      rw [e1] at h2
      rw [e2]
      omega
    · omega
theorem dead_step {can : Int → Bool} {L : List Int} {sz : Int} {j : Nat} {l : Int} (hc : can (j : Int) = true) (hl : L[j]? = some l) : deadV can L sz (j + 1) = deadV can L sz j + sz - 1 - l := by
  have : deadV can L sz (j + 1) = if can (j : Int) then deadV can L sz j + sz - 1 - L.getD j 0 else deadV can L sz j := rfl
  rw [this, if_pos hc, List.getD_eq_getElem?_getD, hl]
  rfl
theorem dead_skip {can : Int → Bool} {L : List Int} {sz : Int} {j : Nat} (hc : can (j : Int) = false) : deadV can L sz (j + 1) = deadV can L sz j := by
  have : deadV can L sz (j + 1) = if can (j : Int) then deadV can L sz j + sz - 1 - L.getD j 0 else deadV can L sz j := rfl
  rw [this, if_neg (by simp [hc])]
end Go.Proofs.Ythhggiifbldaeaa.VicMath
namespace Go.Proofs.Ythhggiifbldaeaa.Ents
open Go.RowKit Plan ZnsMath EntMath CntMath EpoMath LayMath VicMath
set_option maxHeartbeats 16000000 in
set_option maxRecDepth 40000 in
theorem refDead_any (F : Nat → Prop) (S : Sv) (Z : List Zone) (C : Cnt) (E : Epo) (w : World) (hl : VList w F S Z C E) (hlo : ∀ (j : Nat) l, C.live[j]? = some l → -1000000 ≤ l) :
    Calls Try.prog 26 #[stV S] w fun r w' => r = .returned (.int .i64 (deadV (canS S Z C E) C.live S.cs Z.length)) ∧ Below w.heap.size w w' := by
  have K := SBox.start w S
  have HC := Lib.hid (fun z W (q : Below w.heap.size w W) => refCan_any _ S Z C E z W (hl.same q))
  have HAT := Lib.hid (fun W (q : Below w.heap.size w W) i (hi : i < S.lN) => (hl.c.same q).l.at' i hi)
  have hcl := fun z (hc : canS S Z C E z = true) => can_live hc
  have hfit := fun (j : Nat) l (hc : canS S Z C E (j : Int) = true) (h : C.live[j]? = some l) => (show ((j : Int) < 32 ∧ l < S.cs - 1 ∧ -1000000 ≤ l) ∧ 3 ≤ S.cs ∧ S.cs ≤ 64 from by
    obtain ⟨h1, h2⟩ := can_fit hc h
    have h3 := data_bounds h1
    exact ⟨⟨by omega, h2, hlo j l h⟩, by omega⟩)
  have hzl := hl.zlen
  have hll := hl.c.l.length
  have hcap : S.zN ≤ 9223372036854775807 := by
    rcases hl.z with ⟨_, h1, _⟩ | ⟨_, _, h1, h2, _⟩
    · omega
    · unfold maxLen at h2; omega
  rw [hll] at hcl
  rw [hzl]
  change RowKit.Hid (∀ z W, Below w.heap.size w W → Calls Try.prog 23 #[stV S, .int .i64 z] W fun r w' => r = .returned (.bool (canS S Z C E z)) ∧ Below W.heap.size W w') at HC
  generalize canS S Z C E = can at *
  have HCL := Lib.hid hcl
  have HFIT := Lib.hid hfit
  have HBD := Lib.hid (fun (h64 : S.cs ≤ 64) => dead_bound (can := can) (L := C.live) h64 (fun j l hc h => (hfit j l hc h).1) (fun j hc => by have := hcl (j : Int) hc; omega))
  clear hl hcl hzl hll hfit hlo
  generalize hlv : C.live = L at *
  clear hlv
  go_enter Try.func26, Try.ntmps26
  generalize hw0 : w.alloc (stRow S) = w0 at *
  go_wp2_with fail
  clear hw0
  go_loopw [3, 4] (fun A x wr => ∃ (j : Nat) (n : Int), x = .int .i64 (j : Int) ∧ j ≤ S.zN ∧ A = .int .i64 n ∧ RowKit.Hid (deadV can L S.cs j = n) ∧ SBox w wr S) (fun _ x _ => S.zN - (intOf x).toNat)
  case atStart => exact ⟨0, 0, rfl, by omega, rfl, Lib.hid rfl, K⟩
  case round =>
    clear K
    obtain ⟨j, n, rfl, hj, rfl, hN, K⟩ := hrel
    have v9 : wr.cell? ⟨w.heap.size, 9, none⟩ = some (.slice S.zA S.zN S.zC) := st_cell K.hs rfl
    by_cases hlt : j < S.zN
    · have hjI : (j : Int) < (S.zN : Int) := by omega
      have HCJ := Lib.hid (HC.out (j : Int))
      cases hc : can (j : Int)
      · rw [hc] at HCJ
        have HN := Lib.hid ((dead_skip hc).trans hN.out)
        clear hc
        go_wp2_with (first
          | ((with_reducible refine Plan.load_lit 58 (.tmp 1) w.heap.size ?_ K.hs Try.underlying58 ?_ ?_ ?_); (· rfl); (· rfl); (· exact st_info); simp only [Act.put, List.setIfInBounds_toArray, List.set_cons_zero, List.set_cons_succ])
          | (go_at_call 23; ((with_reducible refine (HCJ.out _ K.hb).mono ?_); rintro r9 w2 ⟨rfl, h2⟩; have K2 := K.on h2; clear K v9 h2; have K := K2; clear K2)))
        go_roundw
        case rel => exact ⟨j + 1, _, by go_num, by omega, rfl, HN, K⟩
        case measure => simp [intOf]; omega
      · rw [hc] at HCJ
        have hjl : j < S.lN := by have := HCL.out (j : Int) hc; omega
        have hjL : (j : Int) < (S.lN : Int) := by omega
        obtain ⟨xl, l, hlA, hlz, _⟩ := HAT.out wr K.hb j hjl
        have HL := Lib.hid (fun W (q : Below w.heap.size w W) => (show W.cell? (xl.add j) = some (.int .i64 l) from by obtain ⟨x', r', e1, e2, e3⟩ := HAT.out W q j hjl; rw [hlA] at e1; obtain rfl := Option.some.inj e1; rw [hlz] at e2; obtain rfl := Option.some.inj e2; exact e3))
        obtain ⟨⟨f1, f2, f3⟩, f4, f5⟩ := HFIT.out j l hc hlz
        obtain ⟨n1, n2⟩ := HBD.out f5 j
        rw [hN.out] at n1 n2
        have n3 : n ≤ 40000000 := by
          have : (Nat.min j 32 : Nat) ≤ 32 := Nat.min_le_right _ _
          omega
        have HN := Lib.hid ((dead_step (sz := S.cs) hc hlz).trans (by rw [hN.out]))
        have s1 : IntKind.i64.wrap (n + S.cs) = n + S.cs := IntWalk.i64_in _ (by omega)
        have s2 : IntKind.i64.wrap (n + S.cs - 1) = n + S.cs - 1 := IntWalk.i64_in _ (by omega)
        have s3 : IntKind.i64.wrap (n + S.cs - 1 - l) = n + S.cs - 1 - l := IntWalk.i64_in _ (by omega)
        replace hlA := Lib.hid hlA
        clear hc hlz hjl n2
        go_wp2_with (first
          | ((with_reducible refine Plan.load_lit 58 (.tmp 1) w.heap.size ?_ K.hs Try.underlying58 ?_ ?_ ?_); (· rfl); (· rfl); (· exact st_info); simp only [Act.put, List.setIfInBounds_toArray, List.set_cons_zero, List.set_cons_succ])
          | (go_at_call 23; ((with_reducible refine (HCJ.out _ K.hb).mono ?_); rintro r9 w2 ⟨rfl, h2⟩; have K2 := K.on h2; clear K v9 h2; have K := K2; clear K2)))
        refine Plan.start (fun W => W.cell? ⟨w.heap.size, 1, none⟩ = some (.int .i64 S.cs) ∧ W.cell? ⟨w.heap.size, 11, none⟩ = some (.slice (some xl) S.lN S.lC) ∧ W.cell? (xl.add j) = some (.int .i64 l)) [(0, true), (1, true), (2, true), (3, true), (4, true), (5, true), (6, true), (7, true), (8, true), (9, true), (10, true), (11, true), (12, true), (13, true)] (by kernel_rfl) (by kernel_rfl) (by kernel_rfl) (by kernel_rfl) ⟨st_cell K.drew.hs rfl, by rw [← hlA.out]; exact st_cell K.drew.hs rfl, HL.out _ K.drew.hb⟩ ?_
        simp only [List.map_cons, List.map_nil, List.getElem?_toArray, List.getElem?_cons_zero, List.getElem?_cons_succ]
        repeat (first | (refine Plan.take ?_ (by rfl) ?_ ?_; rotate_left; (· rintro w9 ⟨u0, u1, u2⟩; go_simp; (try rw [if_neg (by omega)]); all_goals (with_reducible rfl)); simp only [Act.put, List.setIfInBounds_toArray, List.set_cons_zero, List.set_cons_succ]) | (refine Plan.pass (by rfl) ?_; simp only [Act.put, List.setIfInBounds_toArray, List.set_cons_zero, List.set_cons_succ]))
        refine Plan.ends ?_
        have K2 := K.drew
        go_wp2_with fail
        go_roundw
        case rel => exact ⟨j + 1, _, by go_num, by omega, rfl, HN, K2⟩
        case measure => simp [intOf]; omega
    · obtain rfl : j = S.zN := by omega
      have hjI : ¬ ((S.zN : Nat) : Int) < ((S.zN : Nat) : Int) := by omega
      go_wp2_with fail
      go_ret
      exact ⟨by rw [hN.out]; rfl, K.hb⟩
end Go.Proofs.Ythhggiifbldaeaa.Ents

/- The walk of the document's Used; what the program's victims are to do, in the words of the contracts of the document's own; the walk of the law's agree under it. -/
namespace Go.Proofs.Ythhggiifbldaeaa.Ents
open Go.RowKit Plan ZnsMath EntMath CntMath EpoMath LayMath VicMath
abbrev vdV (s m a : Int) (za : Option Addr) (zn zc : Nat) : Value := .agg #[.int .i64 s, .int .i64 m, .int .i64 a, .slice za zn zc]
abbrev vdRow (s m a : Int) (za : Option Addr) (zn zc : Nat) : Obj := .cells #[.int .i64 s, .int .i64 m, .int .i64 a, .slice za zn zc] 29
theorem vd_info : (Try.prog.info? 29).map (·.size) = some 4 := by kernel_rfl
theorem vd_row {w : World} {g : Nat} {a b c d : Value} {t : TypeId} {fr : Nat × Nat} (h : w.heap[g]? = some (.cells #[a, b, c, d] t fr)) : w.cell? ⟨g, 0, none⟩ = some a ∧ w.cell? ⟨g, 3, none⟩ = some d := ⟨cell_of_row _ _ 0 _ _ _ h, cell_of_row _ _ 3 _ _ _ h⟩
set_option maxHeartbeats 2000000 in
set_option maxRecDepth 20000 in
theorem refUsed_any (F : Nat → Prop) (Z : List Zone) (s m a : Int) (za : Option Addr) (zn zc : Nat) (z : Int) (w : World) (hl : ZonesIn w F za zn zc Z) :
    Calls Try.prog 25 #[vdV s m a za zn zc, .int .i64 z] w fun r w' => r = .returned (.int .i64 (usedV s Z z)) ∧ Below w.heap.size w w' := by
  have hA := (Below.refl w.heap.size w).alloc (Nat.le_refl _) (vdRow s m a za zn zc)
  have hr := heap_alloc_new w (vdRow s m a za zn zc)
  have hlen := hl.is.length
  by_cases h0 : z < 0
  · have e1 : usedV s Z z = 0 := by unfold usedV; rw [if_pos h0]
    rw [e1]
    clear hl e1
    go_enter Try.func25, Try.ntmps25
    obtain ⟨c0, c3⟩ := vd_row hr
    generalize hw0 : w.alloc (vdRow s m a za zn zc) = w0 at *
    go_wp2_with fail
    go_ret
    exact ⟨rfl, hA⟩
  · obtain ⟨i, rfl⟩ : ∃ i : Nat, z = (i : Int) := ⟨z.toNat, by omega⟩
    by_cases h1 : i < zn
    · obtain ⟨x, y, sa, sl, sc, rfl, hy, ⟨_, _, hc⟩, hs⟩ := hl.zone i h1
      have hsl : sl = y.sectors.length ∧ sl ≤ 9223372036854775807 := by
        rcases hs.1 with ⟨_, h7, _, h8⟩ | ⟨_, _, h7, h8, h9, _⟩
        · exact ⟨by rw [h7, h8]; rfl, by omega⟩
        · exact ⟨h9.symm, by unfold maxLen at h8; omega⟩
      obtain ⟨hsl, hsb⟩ := hsl
      have e1 : usedV s Z (i : Int) = if (sl : Int) = s then s - 1 else (sl : Int) := by
        unfold usedV
        rw [if_neg h0, Int.toNat_natCast, hy, hsl]
      rw [e1]
      have hc2 : (w.alloc (vdRow s m a (some x) zn zc)).cell? ⟨(x.add (i * 3)).block, (x.add (i * 3)).off + 2, none⟩ = some (.slice sa sl sc) := (hA.cell (World.block_lt_of_cell? w _ hc)).trans hc
      have hiI : (i : Int) < (zn : Int) := by omega
      clear hl hy hc e1 hs hsl h0 hlen
      by_cases h2 : (sl : Int) = s
      · have d1 : ((sl : Int) == s) = true := by simpa using h2
        have s1 : wrap64 (s - 1) = s - 1 := by unfold wrap64; omega
        rw [if_pos h2]
        have hs0 : 0 ≤ s ∧ s ≤ 9223372036854775807 := by omega
        clear h2
        go_enter Try.func25, Try.ntmps25
        obtain ⟨c0, c3⟩ := vd_row hr
        generalize hw0 : w.alloc (vdRow s m a (some x) zn zc) = w0 at *
        go_wp2_with fail
        go_ret
        exact ⟨rfl, hA⟩
      · have d1 : ((sl : Int) == s) = false := by simpa using h2
        rw [if_neg h2]
        clear h2
        go_enter Try.func25, Try.ntmps25
        obtain ⟨c0, c3⟩ := vd_row hr
        generalize hw0 : w.alloc (vdRow s m a (some x) zn zc) = w0 at *
        go_wp2_with fail
        go_ret
        exact ⟨rfl, hA⟩
    · have e1 : usedV s Z (i : Int) = 0 := by
        unfold usedV
        rw [if_neg h0, Int.toNat_natCast, List.getElem?_eq_none (by omega)]
      rw [e1]
      have hiI : ¬ (i : Int) < (zn : Int) := by omega
      clear hl e1 h0
      go_enter Try.func25, Try.ntmps25
      obtain ⟨c0, c3⟩ := vd_row hr
      generalize hw0 : w.alloc (vdRow s m a za zn zc) = w0 at *
      go_wp2_with fail
      go_ret
      exact ⟨rfl, hA⟩
structure VictimOk : Prop where
  used : ∀ (F : Nat → Prop) (Z : List Zone) (s m a : Int) (za : Option Addr) (zn zc : Nat) (z : Int) (w : World), ZonesIn w F za zn zc Z →
    Calls Try.prog 24 #[vdV s m a za zn zc, .int .i64 z] w fun r w' => r = .returned (.int .i64 (usedV s Z z)) ∧ Below w.heap.size w w'
  can : ∀ (F : Nat → Prop) (S : Sv) (Z : List Zone) (C : Cnt) (E : Epo) (z : Int) (w : World), VList w F S Z C E →
    Calls Try.prog 12 #[stV S, .int .i64 z] w fun r w' => r = .returned (.bool (canS S Z C E z)) ∧ Below w.heap.size w w'
  choose : ∀ (F : Nat → Prop) (S : Sv) (Z : List Zone) (C : Cnt) (E : Epo) (w : World), VList w F S Z C E → S.zN ≤ 1000 →
    Calls Try.prog 11 #[stV S] w fun r w' => r = .returned (.tuple #[.int .i64 (bestV (canS S Z C E) C.live Z.length).1, .bool (bestV (canS S Z C E) C.live Z.length).2]) ∧ Below w.heap.size w w'
  dead : ∀ (F : Nat → Prop) (S : Sv) (Z : List Zone) (C : Cnt) (E : Epo) (w : World), VList w F S Z C E → (∀ (j : Nat) l, C.live[j]? = some l → -1000000 ≤ l) → S.zN ≤ 1000 →
    Calls Try.prog 13 #[stV S] w fun r w' => r = .returned (.int .i64 (deadV (canS S Z C E) C.live S.cs Z.length)) ∧ Below w.heap.size w w'
set_option maxHeartbeats 16000000 in
set_option maxRecDepth 40000 in
theorem vicAgree_any (H : VictimOk) (F : Nat → Prop) (S : Sv) (Z : List Zone) (C : Cnt) (E : Epo) (z : Int) (w : World) (hl : VList w F S Z C E) (hlo : ∀ (j : Nat) l, C.live[j]? = some l → -1000000 ≤ l) (hn : S.zN ≤ 1000) :
    Calls Try.prog 9 #[stV S, .int .i64 z] w fun r w' => r = .returned (.bool true) ∧ Below w.heap.size w w' := by
  have K := SBox.start w S
  have HB1 := Lib.hid (fun W (q : Below w.heap.size w W) => H.choose _ S Z C E W (hl.same q) hn)
  have HB2 := Lib.hid (fun W (q : Below w.heap.size w W) => refChoose_any _ S Z C E W (hl.same q))
  have HC1 := Lib.hid (fun W (q : Below w.heap.size w W) => H.can _ S Z C E z W (hl.same q))
  have HC2 := Lib.hid (fun W (q : Below w.heap.size w W) => (show Calls Try.prog 23 #[stV S, .int .i64 z] W fun r w' => r = .returned (.bool (canS S Z C E z)) ∧ Below W.heap.size W w' from refCan_any _ S Z C E z W (hl.same q)))
  have HU1 := Lib.hid (fun W (q : Below w.heap.size w W) => H.used _ Z S.ds S.dm S.da S.zA S.zN S.zC z W (hl.same q).z)
  have HU2 := Lib.hid (fun W (q : Below w.heap.size w W) => refUsed_any _ Z S.ds S.dm S.da S.zA S.zN S.zC z W (hl.same q).z)
  have HD1 := Lib.hid (fun W (q : Below w.heap.size w W) => H.dead _ S Z C E W (hl.same q) hlo hn)
  have HD2 := Lib.hid (fun W (q : Below w.heap.size w W) => refDead_any _ S Z C E W (hl.same q) hlo)
  clear hl hlo
  generalize (bestV (canS S Z C E) C.live Z.length).1 = B1 at *
  generalize (bestV (canS S Z C E) C.live Z.length).2 = B2 at *
  generalize deadV (canS S Z C E) C.live S.cs Z.length = B3 at *
  generalize canS S Z C E z = B4 at *
  generalize usedV S.ds Z z = B5 at *
  go_enter Try.func9, Try.ntmps9
  generalize hw0 : w.alloc (stRow S) = w0 at *
  go_wp2_with (first
    | ((with_reducible refine Plan.load_lit 58 (.tmp 2) w.heap.size ?_ K.hs Try.underlying58 ?_ ?_ ?_); (· rfl); (· rfl); (· exact st_info); simp only [Act.put, List.setIfInBounds_toArray, List.set_cons_zero, List.set_cons_succ])
    | (go_at_call 11; ((with_reducible refine (HB1.out _ K.hb).mono ?_); rintro r9 w1 ⟨rfl, h1⟩; have K2 := K.on h1; clear K hw0 HB1 h1; have K := K2; clear K2))
    | (go_at_call 22; ((with_reducible refine (HB2.out _ K.hb).mono ?_); rintro r9 w2 ⟨rfl, h1⟩; have K2 := K.on h1; clear K HB2 h1; have K := K2; clear K2)))
  cases B2
  all_goals
    refine Plan.start (fun W => W.heap[w.heap.size]? = some (stRow S)) [(0, true), (1, true), (2, true), (3, true), (4, true), (5, true), (6, true), (7, true), (8, true), (9, true), (10, true), (12, true), (13, true), (11, false), (14, false), (15, true), (16, true), (17, true), (18, true), (19, true), (20, true), (22, true), (23, true), (24, true), (21, false), (25, false), (26, true), (27, true), (28, true), (29, true), (31, true), (30, false), (32, false), (33, true), (34, true), (35, true)] (by kernel_rfl) (by kernel_rfl) (by kernel_rfl) (by kernel_rfl) K.drew.hs ?_
    simp only [List.map_cons, List.map_nil, List.getElem?_toArray, List.getElem?_cons_zero, List.getElem?_cons_succ]
    repeat (first | (refine Plan.take ?_ (by rfl) ?_ ?_; rotate_left; (· rintro w9 u0; go_simp; (try rw [if_neg (by omega)]); all_goals (with_reducible rfl)); simp only [Act.put, List.setIfInBounds_toArray, List.set_cons_zero, List.set_cons_succ]) | (refine Plan.pass (by rfl) ?_; simp only [Act.put, List.setIfInBounds_toArray, List.set_cons_zero, List.set_cons_succ]))
    refine Plan.take_load 58 (.tmp 2) w.heap.size _ (by rfl) rfl (by rfl) (fun w9 h9 => h9) Try.underlying58 rfl st_info ?_
    simp only [Act.put, List.setIfInBounds_toArray, List.set_cons_zero, List.set_cons_succ]
    repeat (first | (refine Plan.take ?_ (by rfl) ?_ ?_; rotate_left; (· rintro w9 u0; go_simp; (try rw [if_neg (by omega)]); all_goals (with_reducible rfl)); simp only [Act.put, List.setIfInBounds_toArray, List.set_cons_zero, List.set_cons_succ]) | (refine Plan.pass (by rfl) ?_; simp only [Act.put, List.setIfInBounds_toArray, List.set_cons_zero, List.set_cons_succ]))
    refine Plan.take_load 58 (.tmp 2) w.heap.size _ (by rfl) rfl (by rfl) (fun w9 h9 => h9) Try.underlying58 rfl st_info ?_
    simp only [Act.put, List.setIfInBounds_toArray, List.set_cons_zero, List.set_cons_succ]
    repeat (first | (refine Plan.take ?_ (by rfl) ?_ ?_; rotate_left; (· rintro w9 u0; go_simp; (try rw [if_neg (by omega)]); all_goals (with_reducible rfl)); simp only [Act.put, List.setIfInBounds_toArray, List.set_cons_zero, List.set_cons_succ]) | (refine Plan.pass (by rfl) ?_; simp only [Act.put, List.setIfInBounds_toArray, List.set_cons_zero, List.set_cons_succ]))
    have K2 := K.drew
    clear K
    have K := K2
    clear K2
    refine Plan.call (by rfl) 12 _ ?_ (HC1.out _ K.hb) ?_
    · go_simp
    rintro r9 w2 ⟨rfl, h2⟩
    have K2 := K.on h2
    clear K h2
    have K := K2
    clear K2
    refine ⟨_, rfl, K.hs, ?_⟩
    simp only [Act.put, List.setIfInBounds_toArray, List.set_cons_zero, List.set_cons_succ]
    repeat (first | (refine Plan.take ?_ (by rfl) ?_ ?_; rotate_left; (· rintro w9 u0; go_simp; (try rw [if_neg (by omega)]); all_goals (with_reducible rfl)); simp only [Act.put, List.setIfInBounds_toArray, List.set_cons_zero, List.set_cons_succ]) | (refine Plan.pass (by rfl) ?_; simp only [Act.put, List.setIfInBounds_toArray, List.set_cons_zero, List.set_cons_succ]))
    refine Plan.call (by rfl) 23 _ ?_ (HC2.out _ K.hb) ?_
    · go_simp
    rintro r9 w2 ⟨rfl, h2⟩
    have K2 := K.on h2
    clear K h2
    have K := K2
    clear K2
    refine ⟨_, rfl, K.hs, ?_⟩
    simp only [Act.put, List.setIfInBounds_toArray, List.set_cons_zero, List.set_cons_succ]
    repeat (first | (refine Plan.take ?_ (by rfl) ?_ ?_; rotate_left; (· rintro w9 u0; go_simp; (try rw [if_neg (by omega)]); all_goals (with_reducible rfl)); simp only [Act.put, List.setIfInBounds_toArray, List.set_cons_zero, List.set_cons_succ]) | (refine Plan.pass (by rfl) ?_; simp only [Act.put, List.setIfInBounds_toArray, List.set_cons_zero, List.set_cons_succ]))
    refine Plan.take_mid 29 (.tmp 37) w.heap.size 6 _ [.int .i64 S.ds, .int .i64 S.dm, .int .i64 S.da, .slice S.zA S.zN S.zC] (by rfl) rfl (by rfl) (fun w9 h9 => h9) rfl Try.underlying29 rfl vd_info ?_
    simp only [Act.put, List.setIfInBounds_toArray, List.set_cons_zero, List.set_cons_succ]
    repeat (first | (refine Plan.take ?_ (by rfl) ?_ ?_; rotate_left; (· rintro w9 u0; go_simp; (try rw [if_neg (by omega)]); all_goals (with_reducible rfl)); simp only [Act.put, List.setIfInBounds_toArray, List.set_cons_zero, List.set_cons_succ]) | (refine Plan.pass (by rfl) ?_; simp only [Act.put, List.setIfInBounds_toArray, List.set_cons_zero, List.set_cons_succ]))
    refine Plan.take_mid 29 (.tmp 41) w.heap.size 6 _ [.int .i64 S.ds, .int .i64 S.dm, .int .i64 S.da, .slice S.zA S.zN S.zC] (by rfl) rfl (by rfl) (fun w9 h9 => h9) rfl Try.underlying29 rfl vd_info ?_
    simp only [Act.put, List.setIfInBounds_toArray, List.set_cons_zero, List.set_cons_succ]
    repeat (first | (refine Plan.take ?_ (by rfl) ?_ ?_; rotate_left; (· rintro w9 u0; go_simp; (try rw [if_neg (by omega)]); all_goals (with_reducible rfl)); simp only [Act.put, List.setIfInBounds_toArray, List.set_cons_zero, List.set_cons_succ]) | (refine Plan.pass (by rfl) ?_; simp only [Act.put, List.setIfInBounds_toArray, List.set_cons_zero, List.set_cons_succ]))
    refine Plan.call (by rfl) 24 _ ?_ (HU1.out _ K.hb) ?_
    · go_simp
    rintro r9 w2 ⟨rfl, h2⟩
    have K2 := K.on h2
    clear K h2
    have K := K2
    clear K2
    refine ⟨_, rfl, K.hs, ?_⟩
    simp only [Act.put, List.setIfInBounds_toArray, List.set_cons_zero, List.set_cons_succ]
    repeat (first | (refine Plan.take ?_ (by rfl) ?_ ?_; rotate_left; (· rintro w9 u0; go_simp; (try rw [if_neg (by omega)]); all_goals (with_reducible rfl)); simp only [Act.put, List.setIfInBounds_toArray, List.set_cons_zero, List.set_cons_succ]) | (refine Plan.pass (by rfl) ?_; simp only [Act.put, List.setIfInBounds_toArray, List.set_cons_zero, List.set_cons_succ]))
    refine Plan.call (by rfl) 25 _ ?_ (HU2.out _ K.hb) ?_
    · go_simp
    rintro r9 w2 ⟨rfl, h2⟩
    have K2 := K.on h2
    clear K h2
    have K := K2
    clear K2
    refine ⟨_, rfl, K.hs, ?_⟩
    simp only [Act.put, List.setIfInBounds_toArray, List.set_cons_zero, List.set_cons_succ]
    repeat (first | (refine Plan.take ?_ (by rfl) ?_ ?_; rotate_left; (· rintro w9 u0; go_simp; (try rw [if_neg (by omega)]); all_goals (with_reducible rfl)); simp only [Act.put, List.setIfInBounds_toArray, List.set_cons_zero, List.set_cons_succ]) | (refine Plan.pass (by rfl) ?_; simp only [Act.put, List.setIfInBounds_toArray, List.set_cons_zero, List.set_cons_succ]))
    refine Plan.take_load 58 (.tmp 2) w.heap.size _ (by rfl) rfl (by rfl) (fun w9 h9 => h9) Try.underlying58 rfl st_info ?_
    simp only [Act.put, List.setIfInBounds_toArray, List.set_cons_zero, List.set_cons_succ]
    repeat (first | (refine Plan.take ?_ (by rfl) ?_ ?_; rotate_left; (· rintro w9 u0; go_simp; (try rw [if_neg (by omega)]); all_goals (with_reducible rfl)); simp only [Act.put, List.setIfInBounds_toArray, List.set_cons_zero, List.set_cons_succ]) | (refine Plan.pass (by rfl) ?_; simp only [Act.put, List.setIfInBounds_toArray, List.set_cons_zero, List.set_cons_succ]))
    refine Plan.take_load 58 (.tmp 2) w.heap.size _ (by rfl) rfl (by rfl) (fun w9 h9 => h9) Try.underlying58 rfl st_info ?_
    simp only [Act.put, List.setIfInBounds_toArray, List.set_cons_zero, List.set_cons_succ]
    repeat (first | (refine Plan.take ?_ (by rfl) ?_ ?_; rotate_left; (· rintro w9 u0; go_simp; (try rw [if_neg (by omega)]); all_goals (with_reducible rfl)); simp only [Act.put, List.setIfInBounds_toArray, List.set_cons_zero, List.set_cons_succ]) | (refine Plan.pass (by rfl) ?_; simp only [Act.put, List.setIfInBounds_toArray, List.set_cons_zero, List.set_cons_succ]))
    refine Plan.call (by rfl) 13 _ ?_ (HD1.out _ K.hb) ?_
    · go_simp
    rintro r9 w2 ⟨rfl, h2⟩
    have K2 := K.on h2
    clear K h2
    have K := K2
    clear K2
    refine ⟨_, rfl, K.hs, ?_⟩
    simp only [Act.put, List.setIfInBounds_toArray, List.set_cons_zero, List.set_cons_succ]
    repeat (first | (refine Plan.take ?_ (by rfl) ?_ ?_; rotate_left; (· rintro w9 u0; go_simp; (try rw [if_neg (by omega)]); all_goals (with_reducible rfl)); simp only [Act.put, List.setIfInBounds_toArray, List.set_cons_zero, List.set_cons_succ]) | (refine Plan.pass (by rfl) ?_; simp only [Act.put, List.setIfInBounds_toArray, List.set_cons_zero, List.set_cons_succ]))
    refine Plan.call (by rfl) 26 _ ?_ (HD2.out _ K.hb) ?_
    · go_simp
    rintro r9 w2 ⟨rfl, h2⟩
    have K2 := K.on h2
    clear K h2
    have K := K2
    clear K2
    refine ⟨_, rfl, K.hs, ?_⟩
    simp only [Act.put, List.setIfInBounds_toArray, List.set_cons_zero, List.set_cons_succ]
    repeat (first | (refine Plan.take ?_ (by rfl) ?_ ?_; rotate_left; (· rintro w9 u0; go_simp; (try rw [if_neg (by omega)]); all_goals (with_reducible rfl)); simp only [Act.put, List.setIfInBounds_toArray, List.set_cons_zero, List.set_cons_succ]) | (refine Plan.pass (by rfl) ?_; simp only [Act.put, List.setIfInBounds_toArray, List.set_cons_zero, List.set_cons_succ]))
    refine Plan.ends ?_
    go_wp2_with fail
    go_ret
    exact ⟨rfl, K.hb⟩
end Go.Proofs.Ythhggiifbldaeaa.Ents

/- The walks of the program's small functions of zones. -/
namespace Go.Proofs.Ythhggiifbldaeaa
open Go.RowKit Plan ZnsMath

end Go.Proofs.Ythhggiifbldaeaa

/- The walk of the program's Counts. -/
namespace Go.Proofs.Ythhggiifbldaeaa
open Go.RowKit Plan ZnsMath

end Go.Proofs.Ythhggiifbldaeaa

/- The walks of the program's possible, valid, full, closed. -/
namespace Go.Proofs.Ythhggiifbldaeaa
open Go.RowKit Plan ZnsMath

/-- the numbers of a device -/
def possibleB (zones size op act : Int) : Bool := decide (¬(zones < 1 ∨ 32 < zones ∨ size < 3 ∨ 64 < size ∨ act < 1 ∨ zones < act ∨ op < 1 ∨ act < op))
end Go.Proofs.Ythhggiifbldaeaa

/- The walks of the program's valid: the search for a sector of another length, and the zone's test. -/
namespace Go.Proofs.Ythhggiifbldaeaa
open Go.RowKit Plan ZnsMath

end Go.Proofs.Ythhggiifbldaeaa
