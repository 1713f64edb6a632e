/- Texts that belong together, part 7. -/
import Derived.Test.YtljobnfilnbefaaPack6
import Derived.OpenShut
import Derived.ShutString
import Derived.ChangeArms
import Derived.ProofKit
import Derived.Lib.SliceRun
import Derived.Deep.MidRow

/- The walks of the program's possible, stripe, Stripe, belong, valid, Valid of a map. -/
namespace Go.Proofs.Ytljobnfilnbefaa.Ents
open Go.RowKit Plan EntMath
abbrev shdRow (a : Option Addr) (n c : Nat) : Obj := .cells #[.slice a n c] 68
theorem shd_info : (Try.prog.info? 68).map (·.size) = some 1 := by kernel_rfl
/-- a load of a whole struct under a guard -/
theorem load_lit_gm {P : Program} {ops : Array Oper} {rest : List Oper} {a : Act} {w : World} {Q : Exit → Act → World → Prop} (ty : TypeId) (x : Operand) {dst : Option Tmp} {t' : TypeId} {pos : String} {after : Array Edge} {j : Nat} {y : Bool}
    (g : Nat) {t : TypeId} {cs : Array Value} {fr : Nat × Nat} {d : TypeDesc} (hw : Region.wanted ⟨dst, .load ty x, t', pos, after, some (j, y)⟩ (yielded ops a.tmps) = true) (hx : a.eval x = .pointer (some ⟨g, 0, none⟩)) (hg : w.heap[g]? = some (.cells cs t fr))
    (hu : P.underlying ty = some d) (hd : (match d with | .struct _ | .array _ _ => true | _ => false) = true) (hi : (P.info? ty).map (·.size) = some cs.size)
    (h : wpList P ops Q rest (a.put dst (.agg cs)) w) : wpList P ops Q (⟨dst, .load ty x, t', pos, after, some (j, y)⟩ :: rest) a w :=
  BigFrame.wpList_want hw fun _ hK => wp_load_row ty x rfl g hx t cs fr d hg hu hd hi (hK _ _ h)
theorem mpossible_any (s : Int) (w : World) : Calls Try.prog 34 #[.int .i64 s] w fun r w' => r = .returned (.bool (decide (1 ≤ s ∧ s ≤ 8))) ∧ w = w' := by
  by_cases h1 : 1 ≤ s
  · by_cases h2 : s ≤ 8
    · rw [decide_eq_true (show 1 ≤ s ∧ s ≤ 8 from ⟨h1, h2⟩)]
      go_enter Try.func34, Try.ntmps34
      go_wp2
      go_ret
      exact ⟨by first | rfl | (simp; omega), rfl⟩
    · rw [decide_eq_false (show ¬ (1 ≤ s ∧ s ≤ 8) from fun h => h2 h.2)]
      go_enter Try.func34, Try.ntmps34
      go_wp2
      go_ret
      exact ⟨by first | rfl | (simp; omega), rfl⟩
  · rw [decide_eq_false (show ¬ (1 ≤ s ∧ s ≤ 8) from fun h => h1 h.1)]
    go_enter Try.func34, Try.ntmps34
    go_wp2
    go_ret
    exact ⟨by first | rfl | (simp; omega), rfl⟩
set_option maxHeartbeats 1000000 in
theorem pstripe_any (Ls : List (List Ent)) (b : Int) (a : Option Addr) (n c : Nat) (w : World) (hn : Ls.length = n) :
    Calls Try.prog 51 #[mapV a n c, .int .i64 b] w fun r w' => r = .returned (.int .i64 (stripe Ls b)) ∧ Below w.heap.size w w' := by
  have hy : (b < 0 ∨ n = 0) → stripe Ls b = -1 := fun h => by unfold stripe; rw [hn, if_pos h]
  have hz : 0 ≤ b → n ≠ 0 → stripe Ls b = b % (n : Int) := fun h1 h2 => by unfold stripe; rw [hn, if_neg (by omega)]
  generalize stripe Ls b = S at *
  have HY := Lib.hid hy
  have HZ := Lib.hid hz
  clear hy hz
  have hA := (Below.refl w.heap.size w).alloc (Nat.le_refl _) (shdRow a n c)
  by_cases h1 : b < 0
  · go_enter Try.func51, Try.ntmps51
    go_wp2
    go_ret
    exact ⟨by rw [HY.out (.inl h1)]; rfl, hA⟩
  · by_cases h2 : n = 0
    · subst h2
      go_enter Try.func51, Try.ntmps51
      go_wp2
      go_ret
      exact ⟨by rw [HY.out (.inr (by trivial))]; rfl, hA⟩
    · have h3 : ((n : Int) == 0) = false := by simp; omega
      have h4 : (n == 0) = false := by simpa using h2
      have h5 : ¬ (n : Int) = 0 := by omega
      go_enter Try.func51, Try.ntmps51
      go_wp2
      go_ret
      exact ⟨m_i (HZ.out (by omega) h2).symm, hA⟩
set_option maxHeartbeats 1000000 in
theorem stripe_any (F : Nat → Prop) (Ls : List (List Ent)) (b : Int) (a : Option Addr) (n c : Nat) (w : World) (hl : MList w F a n c Ls) :
    Calls Try.prog 29 #[mapV a n c, .int .i64 b] w fun r w' => r = .returned (.int .i64 (stripe Ls b)) ∧ Below w.heap.size w w' := by
  have hlen := hl.length
  have hA := (Below.refl w.heap.size w).alloc (Nat.le_refl _) (mapRow a n c)
  have hr0 := heap_alloc_new w (mapRow a n c)
  have HS := Lib.hid (fun W => pstripe_any Ls b a n c W hlen)
  clear hl hlen
  generalize stripe Ls b = S at *
  go_enter Try.func29, Try.ntmps29
  have hc0 := map_row hr0
  generalize hw0 : w.alloc (mapRow a n c) = w0 at *
  go_wp2_with (first
    | ((with_reducible refine Plan.load_lit 24 (.tmp 2) w.heap.size ?_ hr0 Try.underlying24 ?_ ?_ ?_); (· rfl); (· rfl); (· exact map_info); simp only [Act.put, List.setIfInBounds_toArray, List.set_cons_zero, List.set_cons_succ])
    | (go_at_call 51; ((with_reducible refine (HS.out _).mono ?_); rintro e9 w1 ⟨rfl, h1⟩; have b1 := hA.trans (h1.mono hA.size))))
  go_ret
  exact ⟨rfl, b1⟩
end Go.Proofs.Ytljobnfilnbefaa.Ents

/- The walks of the program's belong, valid, Valid of a map. -/
namespace Go.Proofs.Ytljobnfilnbefaa.Ents
open Go.RowKit Plan EntMath
theorem all_bad {p : Ent → Bool} {L : List Ent} {j : Nat} {e : Ent} (he : L[j]? = some e) (h : p e = false) : L.all p = false := by
  cases ho : L.all p
  · rfl
  · rw [List.all_eq_true.1 ho e (List.mem_of_getElem? he)] at h; cases h
theorem all_good {p : Ent → Bool} {L : List Ent} (h : ∀ (j : Nat) (e : Ent), L[j]? = some e → p e = true) : L.all p = true :=
  List.all_eq_true.2 fun e he => by obtain ⟨j, hj⟩ := List.mem_iff_getElem?.1 he; exact h j e hj
set_option maxHeartbeats 4000000 in
set_option maxRecDepth 20000 in
theorem belong_any (F : Nat → Prop) (Ls : List (List Ent)) (L : List Ent) (i : Int) (a b : Option Addr) (n c m k : Nat) (w : World) (hn : Ls.length = n) (hl : EList w F b m k L) :
    Calls Try.prog 66 #[mapV a n c, .slice b m k, .int .i64 i] w fun r w' => r = .returned (.bool (L.all fun e => decide (stripe Ls e.block = i))) ∧ Below w.heap.size w w' := by
  have hlen := hl.length
  have hcp := hl.cap
  unfold maxLen at hcp
  have hA := (Below.refl w.heap.size w).alloc (Nat.le_refl _) (shdRow a n c)
  have hr0 := heap_alloc_new w (shdRow a n c)
  have HAT := Lib.hid (fun W (h : Below w.heap.size w W) j (hj : j < m) => (hl.low.on (Same.low h)).ent j hj)
  have HS := Lib.hid (fun B W => pstripe_any Ls B a n c W hn)
  have hbad := fun j e (he : L[j]? = some e) => @all_bad (fun e => decide (stripe Ls e.block = i)) L j e he
  have hgood := @all_good (fun e => decide (stripe Ls e.block = i)) L
  generalize L.all (fun e => decide (stripe Ls e.block = i)) = R at *
  have HBAD := Lib.hid hbad
  have HGOOD := Lib.hid hgood
  clear hbad hgood hl
  go_enter Try.func66, Try.ntmps66
  generalize hw0 : w.alloc (shdRow a n c) = w0 at *
  go_wp2_with fail
  go_loopw [11] (fun x wr => ∃ j : Nat, x = .int .i64 (j : Int) ∧ j ≤ m ∧ RowKit.Hid (∀ (t : Nat) (e : Ent), t < j → L[t]? = some e → stripe Ls e.block = i) ∧ wr.heap[w.heap.size]? = some (shdRow a n c) ∧ Below w.heap.size w wr) (fun x _ => m - (intOf x).toNat)
  case atStart => exact ⟨0, rfl, by omega, Lib.hid (fun t e h => absurd h (Nat.not_lt_zero _)), hr0, hA⟩
  case round =>
    clear hr0 hA
    obtain ⟨j, rfl, hj, hbf, hr, hb⟩ := hrel
    by_cases hlt : j < m
    · obtain ⟨x, e, rfl, he, hat⟩ := HAT.out wr hb j hlt
      have hjI : (j : Int) < (m : Int) := by omega
      have HN := Lib.hid (HBAD.out j e he)
      have hnx := fun (h0 : stripe Ls e.block = i) (t : Nat) (z : Ent) (ht : t < j + 1) (h : L[t]? = some z) => (show stripe Ls z.block = i from by
        rcases Nat.lt_or_ge t j with h1 | h1
        · exact hbf.out t z h1 h
        · obtain rfl : t = j := by omega
          rw [he] at h
          obtain rfl := Option.some.inj h
          exact h0)
      have HNX := Lib.hid hnx
      have H1 := Lib.hid (HS.out e.block)
      clear hnx he
      obtain ⟨eb, ek, ev, em, ez, eo⟩ := e
      try simp only at hat HN HNX H1
      generalize stripe Ls eb = S at *
      obtain ⟨c0, c1, c2, c3, c4, c5⟩ := hat
      by_cases h0 : S = i
      · have t0 : (S != i) = false := by simpa using h0
        have HN3 := Lib.hid (HNX.out h0)
        clear h0
        go_wp2_with (first
          | ((with_reducible refine Plan.load_lit 68 (.tmp 3) w.heap.size ?_ (e_al hr (entRow eb ek ev em ez eo)) Try.underlying68 ?_ ?_ ?_); (· rfl); (· rfl); (· exact shd_info); simp only [Act.put, List.setIfInBounds_toArray, List.set_cons_zero, List.set_cons_succ])
          | (go_at_call 51; ((with_reducible refine (H1.out _).mono ?_); rintro e9 w1 ⟨rfl, h1⟩; have q1 := hb.alloc hb.size (entRow eb ek ev em ez eo); have b1 := q1.trans (h1.mono q1.size); have hr1 := e_on h1 (e_al hr (entRow eb ek ev em ez eo)) (e_lt (e_al hr (entRow eb ek ev em ez eo))))))
        go_roundw
        case rel => exact ⟨j + 1, by go_num, by omega, HN3, hr1, b1⟩
        case measure => simp [intOf]; omega
      · have t0 : (S != i) = true := by simpa using h0
        have hR := Lib.hid (HN.out (by simpa using h0))
        clear h0
        go_wp2_with (first
          | ((with_reducible refine Plan.load_lit 68 (.tmp 3) w.heap.size ?_ (e_al hr (entRow eb ek ev em ez eo)) Try.underlying68 ?_ ?_ ?_); (· rfl); (· rfl); (· exact shd_info); simp only [Act.put, List.setIfInBounds_toArray, List.set_cons_zero, List.set_cons_succ])
          | (go_at_call 51; ((with_reducible refine (H1.out _).mono ?_); rintro e9 w1 ⟨rfl, h1⟩; have q1 := hb.alloc hb.size (entRow eb ek ev em ez eo); have b1 := q1.trans (h1.mono q1.size))))
        go_ret
        exact ⟨by rw [hR.out]; rfl, b1⟩
    · have hjI : ¬ (j : Int) < (m : Int) := by omega
      have hR := Lib.hid (HGOOD.out (fun t z h => decide_eq_true (hbf.out t z (by have := (List.getElem?_eq_some_iff.1 h).1; omega) h)))
      go_wp2_with fail
      go_ret
      exact ⟨by rw [hR.out]; rfl, hb⟩
theorem belong_ok {Ls : List (List Ent)} {L : List Ent} {i : Nat} (hv : validB L = true) (hn : 1 ≤ Ls.length) : (L.all fun e => decide (stripe Ls e.block = (i : Int))) = okShard Ls.length i L := by
  have hp : ∀ e ∈ L, 0 ≤ e.block := fun e he => (ok_iff.1 ((valid_iff.1 hv).1 e he)).2.2.2.2.2.1
  unfold okShard
  rw [hv, Bool.true_and]
  apply Bool.eq_iff_iff.2
  simp only [List.all_eq_true, decide_eq_true_eq]
  refine forall_congr' fun e => forall_congr' fun he => ?_
  have := hp e he
  unfold stripe
  rw [if_neg (by omega)]
set_option maxHeartbeats 8000000 in
set_option maxRecDepth 20000 in
theorem pvalid_any (F : Nat → Prop) (Ls : List (List Ent)) (a : Option Addr) (n c : Nat) (w : World) (hl : MList w F a n c Ls) :
    Calls Try.prog 49 #[mapV a n c] w fun r w' => r = .returned (.bool (validM Ls)) ∧ Below w.heap.size w w' := by
  have hlen := hl.length
  have hcp := hl.cap
  unfold maxLen at hcp
  have hA := (Below.refl w.heap.size w).alloc (Nat.le_refl _) (shdRow a n c)
  have hr0 := heap_alloc_new w (shdRow a n c)
  have HAT := Lib.hid (fun W (h : Below w.heap.size w W) i (hi : i < n) => (hl.same h).at' i hi)
  have hno := @validM_no Ls
  have hbad := fun i L h1 h2 => @validM_bad Ls i L h1 h2
  have hall := @validM_all Ls
  have hbel := fun L i (hv : validB L = true) (h1 : 1 ≤ n) => @belong_ok Ls L i hv (by omega)
  have HB := Lib.hid (fun L i b m k W (h : EList W (fun b => b < W.heap.size) b m k L) => belong_any _ Ls L i a b n c m k W hlen h)
  have HP := Lib.hid (mpossible_any (n : Int))
  rw [hlen] at hno hbad hall hbel
  generalize validM Ls = R at *
  have HNO := Lib.hid hno
  have HBAD := Lib.hid hbad
  have HALL := Lib.hid hall
  have HBEL := Lib.hid hbel
  clear hno hbad hall hbel hl
  by_cases hn : 1 ≤ n ∧ n ≤ 8
  · obtain ⟨hn1, hn2⟩ := hn
    rw [decide_eq_true (show 1 ≤ (n : Int) ∧ (n : Int) ≤ 8 by omega)] at HP
    go_enter Try.func49, Try.ntmps49
    have hcr := map_row hr0
    generalize hw0 : w.alloc (shdRow a n c) = w0 at *
    go_wp2_with (first
      | (go_at_call 34; ((with_reducible refine (HP.out _).mono ?_); rintro e9 w1 ⟨rfl, rfl⟩)))
    go_loopw [15] (fun x wr => ∃ i : Nat, x = .int .i64 (i : Int) ∧ i ≤ n ∧ RowKit.Hid (∀ t, t < i → okShard n t (Ls.getD t []) = true) ∧ wr.heap[w.heap.size]? = some (shdRow a n c) ∧ Below w.heap.size w wr) (fun x _ => n - (intOf x).toNat)
    case atStart => exact ⟨0, rfl, by omega, Lib.hid (fun i h => absurd h (Nat.not_lt_zero _)), hr0, hA⟩
    case round =>
      clear hcr hr0 hA
      obtain ⟨i, rfl, hi, hok, hr, hb⟩ := hrel
      by_cases hlt : i < n
      · obtain ⟨x, L, b, m, k, rfl, hL, hc, hle⟩ := HAT.out wr hb i hlt
        have hiI : (i : Int) < (n : Int) := by omega
        have HV := Lib.hid (valid_any _ L b m k wr hle)
        have HPIN := Lib.hid (pin hc hle)
        have hnx := Lib.hid (fun (h : okShard n i L = true) t (ht : t < i + 1) => (show okShard n t (Ls.getD t []) = true from by
          rcases Nat.lt_or_ge t i with h1 | h1
          · exact hok.out t h1
          · obtain rfl : t = i := by omega
            rw [getD_of hL]
            exact h))
        cases hva : validB L
        · have hR := Lib.hid (HBAD.out i L hL (okShard_no hva))
          rw [hva] at HV
          clear hle hL hok
          go_wp2_with (first
            | (go_at_call 56; ((with_reducible refine HV.out.mono ?_); rintro e9 w1 ⟨rfl, hb1⟩; have b1 := hb.trans (hb1.mono hb.size))))
          go_ret
          exact ⟨by rw [hR.out]; rfl, b1⟩
        · rw [hva] at HV
          have hBL := HBEL.out L i hva hn1
          have HBB := Lib.hid (fun W (h : Below wr.heap.size wr W) => HB.out L (i : Int) b m k W ((HPIN.out W h).2.mono (fun _ hb9 h9 => hb9)))
          rw [hBL] at HBB
          cases hoo : okShard n i L
          · have hR := Lib.hid (HBAD.out i L hL hoo)
            rw [hoo] at HBB
            clear hle hL hok hBL hoo hva
            go_wp2_with (first
              | (go_at_call 56; ((with_reducible refine HV.out.mono ?_); rintro e9 w1 ⟨rfl, hb1⟩; have b1 := hb.trans (hb1.mono hb.size); have hr1 := e_on hb1 hr (e_lt hr)))
              | ((with_reducible refine load_lit_gm 68 (.tmp 1) w.heap.size ?_ ?_ hr1 Try.underlying68 ?_ ?_ ?_); (· rfl); (· rfl); (· rfl); (· exact shd_info); simp only [Act.put, List.setIfInBounds_toArray, List.set_cons_zero, List.set_cons_succ])
              | (go_at_call 66; ((with_reducible refine (HBB.out _ hb1).mono ?_); rintro e9 w2 ⟨rfl, hb2⟩; have b2 := b1.trans (hb2.mono b1.size))))
            go_ret
            exact ⟨by rw [hR.out]; rfl, b2⟩
          · have hS := Lib.hid (hnx.out hoo)
            rw [hoo] at HBB
            clear hle hL hok hBL hoo hva
            go_wp2_with (first
              | (go_at_call 56; ((with_reducible refine HV.out.mono ?_); rintro e9 w1 ⟨rfl, hb1⟩; have b1 := hb.trans (hb1.mono hb.size); have hr1 := e_on hb1 hr (e_lt hr)))
              | ((with_reducible refine load_lit_gm 68 (.tmp 1) w.heap.size ?_ ?_ hr1 Try.underlying68 ?_ ?_ ?_); (· rfl); (· rfl); (· rfl); (· exact shd_info); simp only [Act.put, List.setIfInBounds_toArray, List.set_cons_zero, List.set_cons_succ])
              | (go_at_call 66; ((with_reducible refine (HBB.out _ hb1).mono ?_); rintro e9 w2 ⟨rfl, hb2⟩; have b2 := b1.trans (hb2.mono b1.size); have hr2 := e_on hb2 hr1 (e_lt hr1))))
            go_roundw
            case rel => exact ⟨i + 1, by go_num, by omega, hS, hr2, b2⟩
            case measure => simp [intOf]; omega
      · obtain rfl : i = n := by omega
        have hR := Lib.hid (HALL.out hn1 hn2 (fun t ht => hok.out t (by omega)))
        go_wp2_with fail
        go_ret
        exact ⟨by rw [hR.out]; rfl, hb⟩
  · have hR := Lib.hid (HNO.out hn)
    rw [decide_eq_false (show ¬ (1 ≤ (n : Int) ∧ (n : Int) ≤ 8) by omega)] at HP
    go_enter Try.func49, Try.ntmps49
    have hcr := map_row hr0
    generalize hw0 : w.alloc (shdRow a n c) = w0 at *
    go_wp2_with (first
      | (go_at_call 34; ((with_reducible refine (HP.out _).mono ?_); rintro e9 w1 ⟨rfl, rfl⟩)))
    go_ret
    exact ⟨by rw [hR.out]; rfl, hA⟩
set_option maxHeartbeats 1000000 in
theorem mvalid_any (F : Nat → Prop) (Ls : List (List Ent)) (a : Option Addr) (n c : Nat) (w : World) (hl : MList w F a n c Ls) :
    Calls Try.prog 27 #[mapV a n c] w fun r w' => r = .returned (.bool (validM Ls)) ∧ Below w.heap.size w w' := by
  have hA := (Below.refl w.heap.size w).alloc (Nat.le_refl _) (mapRow a n c)
  have hr0 := heap_alloc_new w (mapRow a n c)
  have HS := Lib.hid (pvalid_any _ Ls a n c _ (hl.low.on (Same.low hA)))
  clear hl
  generalize validM Ls = S at *
  go_enter Try.func27, Try.ntmps27
  have hc0 := map_row hr0
  generalize hw0 : w.alloc (mapRow a n c) = w0 at *
  go_wp2_with (first
    | ((with_reducible refine Plan.load_lit 24 (.tmp 1) w.heap.size ?_ hr0 Try.underlying24 ?_ ?_ ?_); (· rfl); (· rfl); (· exact map_info); simp only [Act.put, List.setIfInBounds_toArray, List.set_cons_zero, List.set_cons_succ])
    | (go_at_call 49; ((with_reducible refine HS.out.mono ?_); rintro e9 w1 ⟨rfl, h1⟩; have b1 := hA.trans (h1.mono hA.size))))
  go_ret
  exact ⟨rfl, b1⟩
end Go.Proofs.Ytljobnfilnbefaa.Ents

/- The walks of the law's light, awake and of L2pRaw, under the program's contracts. -/
namespace Go.Proofs.Ytljobnfilnbefaa.Ents
open Go.RowKit Plan EntMath
theorem flat_row {Ls : List (List Ent)} {i : Nat} {L : List Ent} (h : Ls[i]? = some L) : ((Ls.take (i + 1)).flatten).length = ((Ls.take i).flatten).length + L.length := by
  rw [List.take_add_one, h, List.flatten_append, List.length_append]
  simp
set_option maxHeartbeats 2000000 in
set_option maxRecDepth 20000 in
theorem mapLight_any (F : Nat → Prop) (Ls : List (List Ent)) (a : Option Addr) (n c : Nat) (w : World) (hl : MList w F a n c Ls) (hs : n + Ls.flatten.length ≤ 4611686018427387904) :
    Calls Try.prog 7 #[mapV a n c] w fun r w' => r = .returned (.bool (decide (((n + Ls.flatten.length : Nat) : Int) ≤ 200))) ∧ Below w.heap.size w w' := by
  have hlen := hl.length
  have hcp := hl.cap
  unfold maxLen at hcp
  have hA := (Below.refl w.heap.size w).alloc (Nat.le_refl _) (mapRow a n c)
  have hx0 := heap_alloc_new w (mapRow a n c)
  have HAT := Lib.hid (fun W (h : Below w.heap.size w W) i (hi : i < n) => (hl.same h).at' i hi)
  have HTK := Lib.hid (fun i => flat_take_le Ls i)
  have HT0 : RowKit.Hid (((Ls.take 0).flatten).length = 0) := Lib.hid (by simp)
  have HTn : RowKit.Hid (((Ls.take n).flatten).length = Ls.flatten.length) := Lib.hid (by rw [List.take_of_length_le (by omega)])
  generalize Ls.flatten.length = T at *
  clear hl
  have hc0 := map_row hx0
  go_enter Try.func7, Try.ntmps7
  generalize hw0 : w.alloc (mapRow a n c) = w0 at *
  go_wp2_with fail
  go_loopw [3, 4] (fun s x wr => ∃ i : Nat, x = .int .i64 (i : Int) ∧ i ≤ n ∧ s = .int .i64 ((n + ((Ls.take i).flatten).length : Nat) : Int) ∧ wr = w0) (fun _ x _ => n - (intOf x).toNat)
  case atStart => exact ⟨0, rfl, by omega, by rw [HT0.out]; rfl, rfl⟩
  case round =>
    obtain ⟨i, rfl, hi, rfl, hww⟩ := hrel
    have h9 : w0 = wr := hww.symm
    subst h9
    clear hww
    by_cases hlt : i < n
    · obtain ⟨x, L, b, m, k, rfl, hL, hc, hle⟩ := HAT.out w0 hA i hlt
      have hfr := Lib.hid (flat_row hL)
      have hml := hle.length
      have hb1 := HTK.out (i + 1)
      rw [hfr.out, hml] at hb1
      have hiI : (i : Int) < (n : Int) := by omega
      clear hle hL
      generalize hS : ((Ls.take i).flatten).length = S at *
      have HS := Lib.hid hS
      clear hS
      go_wp2_with fail
      go_roundw
      case rel => exact ⟨i + 1, by go_num, by omega, by rw [hfr.out, hml]; go_num, by trivial⟩
      case measure => simp [intOf]; omega
    · obtain rfl : n = i := by omega
      rw [HTn.out]
      go_wp2_with fail
      go_ret
      exact ⟨rfl, hA⟩
set_option maxHeartbeats 2000000 in
set_option maxRecDepth 20000 in
/-- any map at all: the sum may be too great for an int -/
theorem mapLight_far (F : Nat → Prop) (Ls : List (List Ent)) (a : Option Addr) (n c : Nat) (w : World) (hl : MList w F a n c Ls) :
    Calls Try.prog 7 #[mapV a n c] w fun r w' => ∃ b, r = .returned (.bool b) ∧ Below w.heap.size w w' := by
  have hlen := hl.length
  have hcp := hl.cap
  unfold maxLen at hcp
  have hA := (Below.refl w.heap.size w).alloc (Nat.le_refl _) (mapRow a n c)
  have hx0 := heap_alloc_new w (mapRow a n c)
  have HAT := Lib.hid (fun W (h : Below w.heap.size w W) i (hi : i < n) => (hl.same h).at' i hi)
  clear hl
  have hc0 := map_row hx0
  go_enter Try.func7, Try.ntmps7
  generalize hw0 : w.alloc (mapRow a n c) = w0 at *
  go_wp2_with fail
  go_loopw [3, 4] (fun s x wr => ∃ (i : Nat) (z : Int), x = .int .i64 (i : Int) ∧ i ≤ n ∧ s = .int .i64 z ∧ wr = w0) (fun _ x _ => n - (intOf x).toNat)
  case atStart => exact ⟨0, _, rfl, by omega, rfl, rfl⟩
  case round =>
    obtain ⟨i, z, rfl, hi, rfl, hww⟩ := hrel
    have h9 : w0 = wr := hww.symm
    subst h9
    clear hww
    by_cases hlt : i < n
    · obtain ⟨x, L, b, m, k, rfl, hL, hc, hle⟩ := HAT.out w0 hA i hlt
      have hml := hle.length
      have hiI : (i : Int) < (n : Int) := by omega
      clear hle hL
      have HX : RowKit.Hid (∀ z : Int, ∃ y, IntKind.i64.wrap (z + (m : Int)) = y) := Lib.hid (fun z => ⟨_, rfl⟩)
      obtain ⟨y, hy⟩ := HX.out z
      go_wp2_with fail
      go_roundw
      case rel => exact ⟨i + 1, _, by go_num, by omega, rfl, by trivial⟩
      case measure => simp [intOf]; omega
    · obtain rfl : n = i := by omega
      go_wp2_with fail
      go_ret
      exact ⟨_, rfl, hA⟩
def e7 : Ent := ⟨7, 1, 1, 0, 0, 0⟩
theorem aw_new : newM 3 = [[], [], []] ∧ newME 3 = 0 := by decide
theorem aw_inst : installM [[], [], []] e7 = [[], [e7], []] ∧ installME [[], [], []] e7 = zeroE ∧ newerM [[], [], []] e7 = true := by decide
theorem aw_look : lookM [[], [e7], []] 7 = some e7 := by decide
theorem aw_stripe : stripe [[], [e7], []] 7 = 1 := by decide
theorem aw_all : allM [[], [e7], []] = [e7] := by decide
set_option maxHeartbeats 4000000 in
set_option maxRecDepth 20000 in
theorem mapAwake_any (H : MapOk) (w : World) : Calls Try.prog 9 #[] w fun r w' => r = .returned (.bool true) ∧ Below w.heap.size w w' := by
  have n1 := fun W => H.new 3 W
  have i1 := fun W (F : Nat → Prop) a n c (h : ∀ b, F b → b < W.heap.size) (l : MList W F a n c [[], [], []]) => H.install F [[], [], []] e7 a n c W h l (fun _ => by decide)
  have f1 := fun W (F : Nat → Prop) a n c (l : MList W F a n c [[], [e7], []]) => H.lookup F [[], [e7], []] 7 a n c W l (fun _ => by decide)
  have s1 := fun W (F : Nat → Prop) a n c (l : MList W F a n c [[], [e7], []]) => H.stripe F [[], [e7], []] 7 a n c W l
  have a1 := fun W (F : Nat → Prop) a n c (h : ∀ b, F b → b < W.heap.size) (l : MList W F a n c [[], [e7], []]) => H.all F [[], [e7], []] a n c W h l (fun _ => by decide)
  simp only [aw_new, aw_inst, aw_stripe, aw_all, lookV, aw_look] at n1 i1 f1 s1 a1
  unfold InstMPost at i1
  unfold e7 zeroE at i1
  unfold e7 at f1 s1 a1
  try simp only [Option.getD_some, Option.isSome_some] at n1 i1 f1 s1 a1
  have N1 := Lib.hid n1
  have I1 := Lib.hid i1
  have F1 := Lib.hid f1
  have S1 := Lib.hid s1
  have A1 := Lib.hid a1
  clear n1 i1 f1 s1 a1
  go_enter Try.func9, Try.ntmps9
  go_wp2_with (first
    | (go_at_call 12; ((with_reducible refine (N1.out _).mono ?_); rintro r9 w1 ⟨a1, n1, c1, rfl, l1, h1⟩; have b1 := h1.alloc h1.size (mapRow a1 n1 c1); have l1 := l1.low.on (Same.alloc w1 (mapRow a1 n1 c1)); have x1 := heap_alloc_new w1 (mapRow a1 n1 c1); have o1 := map_row x1; have z1 := h1.size))
    | (go_at_call 24; ((with_reducible refine (I1.out _ _ a1 n1 c1 (fun _ h => by simp only [World.size_alloc] at *; omega) l1).mono ?_); rintro r9 w2 ⟨a2, n2, c2, rfl, l2, h2⟩; have z2 := h2.size; simp only [World.size_alloc] at z2; have b2 := (b1.trans (h2.mono b1.size)).alloc (b1.trans (h2.mono b1.size)).size (entRow 0 0 0 0 0 0); have x2 := e_al (e_on h2 x1 (e_lt x1)) (entRow 0 0 0 0 0 0); have l2 := l2.cut.on (Same.alloc w2 (entRow 0 0 0 0 0 0)); have y2 := heap_alloc_new w2 (entRow 0 0 0 0 0 0); obtain rfl : n2 = 3 := l2.length.symm; clear o1))
    | ((with_reducible refine Plan.store_lit 24 (.tmp 1) _ w1.heap.size ?_ x2 ?_ ?_ ?_ ?_ ?_ ?_); rotate_left; (· rfl); (· rfl); (· exact map_info); (· rfl); (· simp [Value.oneCell']); simp only [Act.put]; have b3 := below_setRow b2 (show w.heap.size ≤ w1.heap.size by omega) #[.slice a2 3 c2]; have hy3 := (setRow_other (w2.alloc (entRow 0 0 0 0 0 0)) w1.heap.size w2.heap.size #[.slice a2 3 c2] (by omega)).trans y2; have x3 := setRow_heap (w2.alloc (entRow 0 0 0 0 0 0)) w1.heap.size _ #[.slice a2 3 c2] _ _ x2; have l3 := l2.on (Same.row (r := w1.heap.size) (fun h9 => by rcases h9.1 with h9 | h9; (· omega); (· simp only [World.size_alloc] at h9; omega)) #[.slice a2 3 c2]); have z3 : ((w2.alloc (entRow 0 0 0 0 0 0)).setRow w1.heap.size #[.slice a2 3 c2]).heap.size = w2.heap.size + 1 := (by simp [World.setRow]); generalize hW3 : (w2.alloc (entRow 0 0 0 0 0 0)).setRow w1.heap.size #[.slice a2 3 c2] = w3 at *; clear hW3; have y3 : w3.heap[w2.heap.size]? = some (entRow 0 0 0 0 0 0) := hy3)
    | ((with_reducible refine Plan.store_lit 28 (.tmp 3) _ w2.heap.size ?_ y3 ?_ ?_ ?_ ?_ ?_ ?_); rotate_left; (· rfl); (· rfl); (· exact entry_info); (· rfl); (· simp [Value.oneCell']); simp only [Act.put]; have b4 := below_setRow b3 (show w.heap.size ≤ w2.heap.size by omega) #[.int .i64 0, .int .i64 0, .int .i64 0, .int .i64 0, .int .i64 0, .int .i64 0]; have x4 := (setRow_other w3 w2.heap.size w1.heap.size #[.int .i64 0, .int .i64 0, .int .i64 0, .int .i64 0, .int .i64 0, .int .i64 0] (by omega)).trans x3; have l4 := l3.on (Same.row (r := w2.heap.size) (fun h9 => by have := h9.2; omega) #[.int .i64 0, .int .i64 0, .int .i64 0, .int .i64 0, .int .i64 0, .int .i64 0]); generalize hW4 : w3.setRow w2.heap.size #[.int .i64 0, .int .i64 0, .int .i64 0, .int .i64 0, .int .i64 0, .int .i64 0] = w4 at *; clear hW4; have o4 := map_row x4)
    | (go_at_call 22; ((with_reducible refine (F1.out _ _ a2 3 c2 l4).mono ?_); rintro r9 w5 ⟨rfl, h5⟩; have b5 := (b4.trans (h5.mono b4.size)).alloc (b4.trans (h5.mono b4.size)).size (entRow 7 1 1 0 0 0); have x5 := e_al (e_on h5 x4 (e_lt x4)) (entRow 7 1 1 0 0 0); have l5 := (l4.on (Same.below h5)).on (Same.alloc w5 (entRow 7 1 1 0 0 0)); clear o4; have o5 := map_row x5))
    | (go_at_call 29; ((with_reducible refine (S1.out _ _ a2 3 c2 l5).mono ?_); rintro r9 w6 ⟨rfl, h6⟩; have b6 := b5.trans (h6.mono b5.size); have x6 := e_on h6 x5 (e_lt x5); have l6 := l5.on (Same.below h6); clear o5; have o6 := map_row x6; obtain ⟨x, L, b, m, k, rfl, hL, hcc, hle⟩ := l6.at' 1 (by decide); obtain rfl := Option.some.inj hL; obtain rfl : m = 1 := hle.length.symm; have hcc2 : w6.cell? ⟨x.block, x.off + 1, none⟩ = some (.slice b 1 k) := (by rw [← Addr.add_succ' x 0]; exact hcc)))
    | (go_at_call 26; ((with_reducible refine (A1.out _ _ _ 3 c2 (fun _ h => h) l6.low).mono ?_); rintro r9 w7 ⟨a7, n7, c7, rfl, l7, h7⟩; have b7 := b6.trans (h7.mono b6.size); obtain rfl : n7 = 1 := l7.length.symm)))
  go_ret
  exact ⟨rfl, b7⟩
set_option maxHeartbeats 4000000 in
set_option maxRecDepth 20000 in
theorem mapRaw_any (H : MapOk) (F : Nat → Prop) (Ls : List (List Ent)) (e : Ent) (block version cut fz fo tz to : Int) (a : Option Addr) (n c : Nat) (w : World) (hl : MList w F a n c Ls) (hs : Ls.length ≤ 8 → n + Ls.flatten.length ≤ 4611686018427387904) :
    Calls Try.prog 3 #[mapV a n c, entV e, .int .i64 block, .int .i64 version, .int .i64 cut, .agg #[.int .i64 fz, .int .i64 fo], .agg #[.int .i64 tz, .int .i64 to]] w fun r w' => r = .returned (.bool true) ∧ Below w.heap.size w w' := by
  have hA : Below w.heap.size w ((((w.alloc (mapRow a n c)).alloc (entRow e.block e.kind e.version e.move e.zone e.offset)).alloc (placeRow fz fo)).alloc (placeRow tz to)) := ((((Below.refl w.heap.size w).alloc (Nat.le_refl _) _).alloc (by simp) _).alloc (by simp; omega) _).alloc (by simp; omega) _
  obtain ⟨hx0, he0, hp0, hq0⟩ := heap4 w (mapRow a n c) (entRow e.block e.kind e.version e.move e.zone e.offset) (placeRow fz fo) (placeRow tz to)
  have HW := Lib.hid (fun W => mapAwake_any H W)
  by_cases h8 : Ls.length ≤ 8
  · replace hs := hs h8
    have HLT := Lib.hid (fun W (h : Below w.heap.size w W) => mapLight_any _ Ls a n c W (hl.same h) hs)
    by_cases hm : n + Ls.flatten.length ≤ 200
    · rw [decide_eq_true (show ((n + Ls.flatten.length : Nat) : Int) ≤ 200 by omega)] at HLT
      have HG := Lib.hid (fun W (h : Below w.heap.size w W) => mapAgree_any H _ Ls e block version cut fz fo tz to a n c W (hl.same h) (fun _ => by omega))
      clear hl hs hm
      obtain ⟨eb, ek, ev, em, ez, eo⟩ := e
      try simp only at HG hA he0
      go_enter Try.func3, Try.ntmps3
      generalize hw0 : (((w.alloc (mapRow a n c)).alloc (entRow eb ek ev em ez eo)).alloc (placeRow fz fo)).alloc (placeRow tz to) = w0 at *
      have k0 := map_row hx0
      go_wp2_with (first
        | (go_at_call 7; ((with_reducible refine (HLT.out _ hA).mono ?_); rintro r9 w1 ⟨rfl, h1⟩; have b1 := hA.trans (h1.mono hA.size); clear k0; have k0 := map_row (e_on h1 hx0 (e_lt hx0)); obtain ⟨d0, d1, d2, d3, d4, d5⟩ := entry_row (e_on h1 he0 (e_lt he0)); obtain ⟨p0, p1⟩ := place_row (e_on h1 hp0 (e_lt hp0)); obtain ⟨q0, q1⟩ := place_row (e_on h1 hq0 (e_lt hq0))))
        | (go_at_call 8; ((with_reducible refine (HG.out _ b1).mono ?_); rintro r9 w2 ⟨rfl, h2⟩; have b2 := b1.trans (h2.mono b1.size)))
        | (go_at_call 9; ((with_reducible refine (HW.out _).mono ?_); rintro r9 w3 ⟨rfl, h3⟩; have b3 := b2.trans (h3.mono b2.size))))
      go_ret
      exact ⟨rfl, b3⟩
    · rw [decide_eq_false (show ¬ ((n + Ls.flatten.length : Nat) : Int) ≤ 200 by omega)] at HLT
      clear hl hs hm
      obtain ⟨eb, ek, ev, em, ez, eo⟩ := e
      try simp only at hA he0
      go_enter Try.func3, Try.ntmps3
      generalize hw0 : (((w.alloc (mapRow a n c)).alloc (entRow eb ek ev em ez eo)).alloc (placeRow fz fo)).alloc (placeRow tz to) = w0 at *
      have k0 := map_row hx0
      go_wp2_with (first
        | (go_at_call 7; ((with_reducible refine (HLT.out _ hA).mono ?_); rintro r9 w1 ⟨rfl, h1⟩; have b1 := hA.trans (h1.mono hA.size)))
        | (go_at_call 9; ((with_reducible refine (HW.out _).mono ?_); rintro r9 w3 ⟨rfl, h3⟩; have b3 := b1.trans (h3.mono b1.size))))
      go_ret
      exact ⟨rfl, b3⟩
  · have HLT := Lib.hid (fun W (h : Below w.heap.size w W) => mapLight_far _ Ls a n c W (hl.same h))
    have HG := Lib.hid (fun W (h : Below w.heap.size w W) => mapAgree_any H _ Ls e block version cut fz fo tz to a n c W (hl.same h) (fun h9 => absurd h9 h8))
    clear hl hs h8
    obtain ⟨eb, ek, ev, em, ez, eo⟩ := e
    try simp only at HG hA he0
    go_enter Try.func3, Try.ntmps3
    generalize hw0 : (((w.alloc (mapRow a n c)).alloc (entRow eb ek ev em ez eo)).alloc (placeRow fz fo)).alloc (placeRow tz to) = w0 at *
    have k0 := map_row hx0
    go_wp2_with (first
      | (go_at_call 7; ((with_reducible refine (HLT.out _ hA).mono ?_); rintro r9 w1 ⟨b9, rfl, h1⟩; have b1 := hA.trans (h1.mono hA.size); clear k0; have k0 := map_row (e_on h1 hx0 (e_lt hx0)); obtain ⟨d0, d1, d2, d3, d4, d5⟩ := entry_row (e_on h1 he0 (e_lt he0)); obtain ⟨p0, p1⟩ := place_row (e_on h1 hp0 (e_lt hp0)); obtain ⟨q0, q1⟩ := place_row (e_on h1 hq0 (e_lt hq0)); cases b9))
      | (go_at_call 8; ((with_reducible refine (HG.out _ b1).mono ?_); rintro r9 w2 ⟨rfl, h2⟩; have b2 := b1.trans (h2.mono b1.size)))
      | (go_at_call 9; ((with_reducible refine (HW.out _).mono ?_); rintro r9 w3 ⟨rfl, h3⟩; first | (have b3 := b2.trans (h3.mono b2.size)) | (have b3 := b1.trans (h3.mono b1.size)))))
    all_goals (go_ret; exact ⟨rfl, b3⟩)
end Go.Proofs.Ytljobnfilnbefaa.Ents

/- Entries, places and lists of entries that come in. -/
namespace Go.Proofs.Ytljobnfilnbefaa.Ents
open Go.ChangeShapes Go.WideShapes Go.RowKit EntMath
set_option maxRecDepth 20000 in
theorem ent_cells_int : Try.prog.cellsOf 3 = 1 := by kernel_rfl
set_option maxRecDepth 20000 in
theorem ent_cells_place : Try.prog.cellsOf 26 = 2 := by kernel_rfl
set_option maxRecDepth 20000 in
theorem ent_cells_entry : Try.prog.cellsOf 28 = 6 := by kernel_rfl
set_option maxRecDepth 20000 in
theorem ent_cells_list : Try.prog.cellsOf 49 = 1 := by kernel_rfl
set_option maxRecDepth 20000 in
theorem ent_some {α : Type} {l : List α} {i n : Nat} (hl : l.length = n) (hi : i < n) : ∃ y, l[i]? = some y := ⟨l[i]'(by omega), List.getElem?_eq_getElem (by omega)⟩
section
variable {H : Type} {enc : TypeId × Value → H} {w : World} {base : Nat} {spare : Nat → Bool} {held : Bool}
set_option maxRecDepth 20000 in
theorem trod_place {fuel : Nat} {cs : List Value} {x : DataW H × List MemPlace} (h : DataW.trod enc Try.prog w base spare held fuel 26 cs = some x) : ∃ z o : Int, cs = [.int .i64 z, .int .i64 o] := by
  obtain ⟨xs, n, _, _, hl4, hlen, hg⟩ := DataW.trod_struct Try.underlying26 h
  rw [ent_cells_place] at hl4
  match cs, hl4 with
  | [x0, x1], _ =>
    have hl : xs.length = 2 := hlen
    obtain ⟨y0, e0⟩ := ent_some hl (i := 0) (by decide)
    obtain ⟨y1, e1⟩ := ent_some hl (i := 1) (by decide)
    have g0 : DataW.trod enc Try.prog w base spare held n 3 (([x0, x1].drop 0).take (Try.prog.cellsOf 3)) = some y0 := (hg 0 _ rfl).trans e0
    rw [ent_cells_int] at g0
    have g1 : DataW.trod enc Try.prog w base spare held n 3 (([x0, x1].drop 1).take (Try.prog.cellsOf 3)) = some y1 := (hg 1 _ rfl).trans e1
    rw [ent_cells_int] at g1
    obtain ⟨z, h0, _⟩ := DataW.trod_int Try.underlying3 g0
    obtain ⟨o, h1, _⟩ := DataW.trod_int Try.underlying3 g1
    simp at h0 h1
    exact ⟨z, o, by rw [h0, h1]⟩
set_option maxRecDepth 20000 in
theorem trod_entry {fuel : Nat} {cs : List Value} {x : DataW H × List MemPlace} (h : DataW.trod enc Try.prog w base spare held fuel 28 cs = some x) : ∃ e : Ent, cs = entC e := by
  obtain ⟨xs, n, _, _, hl4, hlen, hg⟩ := DataW.trod_struct Try.underlying28 h
  rw [ent_cells_entry] at hl4
  match cs, hl4 with
  | [x0, x1, x2, x3, x4, x5], _ =>
    have hl : xs.length = 5 := hlen
    obtain ⟨y0, e0⟩ := ent_some hl (i := 0) (by decide)
    obtain ⟨y1, e1⟩ := ent_some hl (i := 1) (by decide)
    obtain ⟨y2, e2⟩ := ent_some hl (i := 2) (by decide)
    obtain ⟨y3, e3⟩ := ent_some hl (i := 3) (by decide)
    obtain ⟨y4, e4⟩ := ent_some hl (i := 4) (by decide)
    have g0 : DataW.trod enc Try.prog w base spare held n 3 (([x0, x1, x2, x3, x4, x5].drop 0).take (Try.prog.cellsOf 3)) = some y0 := (hg 0 _ rfl).trans e0
    rw [ent_cells_int] at g0
    obtain ⟨k0, h0, _⟩ := DataW.trod_int Try.underlying3 g0
    have g1 : DataW.trod enc Try.prog w base spare held n 3 (([x0, x1, x2, x3, x4, x5].drop 1).take (Try.prog.cellsOf 3)) = some y1 := (hg 1 _ rfl).trans e1
    rw [ent_cells_int] at g1
    obtain ⟨k1, h1, _⟩ := DataW.trod_int Try.underlying3 g1
    have g2 : DataW.trod enc Try.prog w base spare held n 3 (([x0, x1, x2, x3, x4, x5].drop 2).take (Try.prog.cellsOf 3)) = some y2 := (hg 2 _ rfl).trans e2
    rw [ent_cells_int] at g2
    obtain ⟨k2, h2, _⟩ := DataW.trod_int Try.underlying3 g2
    have g3 : DataW.trod enc Try.prog w base spare held n 3 (([x0, x1, x2, x3, x4, x5].drop 3).take (Try.prog.cellsOf 3)) = some y3 := (hg 3 _ rfl).trans e3
    rw [ent_cells_int] at g3
    obtain ⟨k3, h3, _⟩ := DataW.trod_int Try.underlying3 g3
    have g4 : DataW.trod enc Try.prog w base spare held n 26 (([x0, x1, x2, x3, x4, x5].drop 4).take (Try.prog.cellsOf 26)) = some y4 := (hg 4 _ rfl).trans e4
    rw [ent_cells_place] at g4
    obtain ⟨k4, k5, h4⟩ := trod_place g4
    simp at h0 h1 h2 h3 h4
    exact ⟨⟨k0, k1, k2, k3, k4, k5⟩, by rw [h0, h1, h2, h3, h4.1, h4.2]; rfl⟩
set_option maxRecDepth 20000 in
/-- a list of entries among data -/
theorem trod_entries {fuel : Nat} {cs : List Value} {x : DataW H × List MemPlace} (h : DataW.trod enc Try.prog w base spare held fuel 49 cs = some x) (hb : ∀ a len cap, cs = [.slice (some a) len cap] → a.block < w.heap.size) : ∃ a len cap L, cs = [.slice a len cap] ∧ EList w (fun b => b < w.heap.size) a len cap L := by
  rcases DataW.trod_slice Try.underlying49 h with ⟨rfl, _⟩ | ⟨a, len, cap, elems, rest, n, _, rfl, _, _, hl, hm, hlen, hel, _, _⟩
  · exact ⟨none, 0, 0, [], rfl, .inl ⟨trivial, rfl, rfl, rfl⟩⟩
  have each : ∀ i, i < len → ∃ e : Ent, ∀ j u, (entC e)[j]? = some u → w.cell? (a.add (i * 6 + j)) = some u := by
    intro i hi
    obtain ⟨y, hy⟩ : ∃ y, elems[i]? = some y := ⟨elems[i]'(by omega), List.getElem?_eq_getElem (by omega)⟩
    have h1 := (hel i hi).trans hy
    rw [ent_cells_entry, Option.bind_eq_some_iff] at h1
    obtain ⟨cs, hcs, ht⟩ := h1
    obtain ⟨e, rfl⟩ := trod_entry ht
    refine ⟨e, fun j u hu => ?_⟩
    obtain ⟨h1, h2⟩ := World.cells?_some hcs
    have hj : j < 6 := by have := (List.getElem?_eq_some_iff.1 hu).1; simpa [entC] using this
    have := (h2.2 j hj).trans hu
    rwa [Addr.add_add] at this
  have build : ∀ n, n ≤ len → ∃ L : List Ent, L.length = n ∧ ∀ j u, (ents L)[j]? = some u → w.cell? (a.add j) = some u := by
    intro n
    induction n with
    | zero => intro _; exact ⟨[], rfl, fun j u hu => by simp [ents] at hu⟩
    | succ n ih =>
      intro hn
      obtain ⟨L, hL, hall⟩ := ih (by omega)
      obtain ⟨e, he⟩ := each n (by omega)
      refine ⟨L ++ [e], by simp [hL], fun j u hu => ?_⟩
      rw [ents_append, ents_one] at hu
      rcases Nat.lt_or_ge j (n * 6) with hj | hj
      · rw [List.getElem?_append_left (by rw [ents_length, hL]; exact hj)] at hu
        exact hall j u hu
      · rw [List.getElem?_append_right (by rw [ents_length, hL]; exact hj), ents_length, hL] at hu
        have := he (j - n * 6) u hu
        rwa [show n * 6 + (j - n * 6) = j by omega] at this
  obtain ⟨L, hL, hall⟩ := build len (Nat.le_refl _)
  exact ⟨some a, len, cap, L, rfl, .inr ⟨a, rfl, hl, hm, hL, hb _ _ _ rfl, hb _ _ _ rfl, hall⟩⟩
set_option maxRecDepth 20000 in
/-- the block of a slice that came in -/
theorem ent_slice_in {w : World} {r : Reach} {b0 : Nat} {u : TypeId} {a : Addr} {len cap : Nat} (h : Cell.okWide Try.prog w r b0 u (.slice (some a) len cap)) : a.block < w.heap.size := by
  have hs : (∃ row cells, w.shape? a.block = some (row, cells)) → a.block < w.heap.size := by
    rintro ⟨row, cells, h⟩
    unfold World.shape? at h
    rcases Nat.lt_or_ge a.block w.heap.size with hl | hl
    · exact hl
    · rw [Array.getElem?_eq_none hl] at h
      cases h
  unfold Cell.okWide at h
  split at h
  all_goals first
    | (rename_i hv; cases hv; done)
    | (rename_i hu hv; cases hv; done)
    | skip
  unfold Cell.ok at h
  split at h
  all_goals first
    | (rename_i hv; cases hv; done)
    | (rename_i hu hv; cases hv; done)
    | exact h.elim
    | skip
  rename_i hv
  cases hv
  obtain ⟨_, _, _, _, row, cells, hsh, _⟩ := h
  exact hs ⟨row, cells, hsh⟩
set_option maxRecDepth 20000 in
theorem open_ents {r : Reach} {b0 : Nat} {v : Value} {d : DataW H} {p : List MemPlace}
    (hok : Value.okWide Try.prog w r b0 49 v) (h : DataW.Trod enc Try.prog w base spare held 49 v d p) :
    ∃ (a : Option Addr) (len cap : Nat) (L : List Ent), v = .slice a len cap ∧ EList w (fun b => b < w.heap.size) a len cap L := by
  obtain ⟨a, len, cap, rfl⟩ := okWide_slice Try.underlying49 hok
  have hblk : ∀ a' len' cap', (Value.slice a len cap).cells.toList = [.slice (some a') len' cap'] → a'.block < w.heap.size := by
    intro a' len' cap' e
    simp [Value.cells] at e
    obtain ⟨rfl, rfl, rfl⟩ := e
    simp only [Value.okWide, Try.underlying49] at hok
    exact ent_slice_in hok
  obtain ⟨fuel, hf⟩ := h
  obtain ⟨a', len', cap', L, e, hl⟩ := trod_entries hf hblk
  simp [Value.cells] at e
  obtain ⟨rfl, rfl, rfl⟩ := e
  exact ⟨_, _, _, L, rfl, hl⟩
set_option maxRecDepth 20000 in
theorem open_ent {r : Reach} {b0 : Nat} {v : Value} {d : DataW H} {p : List MemPlace}
    (hok : Value.okWide Try.prog w r b0 28 v) (h : DataW.Trod enc Try.prog w base spare held 28 v d p) : ∃ e : Ent, v = entV e := by
  obtain ⟨cs, rfl, _⟩ := okWide_struct Try.underlying28 hok
  obtain ⟨fuel, hf⟩ := h
  obtain ⟨e, he⟩ := trod_entry hf
  obtain ⟨l⟩ := cs
  have he' : l = entC e := he
  subst he'
  exact ⟨e, rfl⟩
set_option maxRecDepth 20000 in
theorem open_place {r : Reach} {b0 : Nat} {v : Value} {d : DataW H} {p : List MemPlace}
    (hok : Value.okWide Try.prog w r b0 26 v) (h : DataW.Trod enc Try.prog w base spare held 26 v d p) : ∃ z o : Int, v = .agg #[.int .i64 z, .int .i64 o] := by
  obtain ⟨cs, rfl, _⟩ := okWide_struct Try.underlying26 hok
  obtain ⟨fuel, hf⟩ := h
  obtain ⟨z, o, he⟩ := trod_place hf
  obtain ⟨l⟩ := cs
  have he' : l = [.int .i64 z, .int .i64 o] := he
  subst he'
  exact ⟨z, o, rfl⟩
end
end Go.Proofs.Ytljobnfilnbefaa.Ents

/- The walks of the program's partOf, list, with of a map, and of the library's Clone at lists of lists. -/
namespace Go.Proofs.Ytljobnfilnbefaa.Ents
open Go.RowKit Plan EntMath
abbrev partV (a : Option Addr) (n c : Nat) (k : Int) : Value := .agg #[.slice a n c, .int .i64 k]
abbrev partRow (a : Option Addr) (n c : Nat) (k : Int) : Obj := .cells #[.slice a n c, .int .i64 k] 70
theorem part_info : (Try.prog.info? 70).map (·.size) = some 2 := by kernel_rfl
theorem part_row {w : World} {g : Nat} {a b : Value} {t : TypeId} {fr : Nat × Nat} (h : w.heap[g]? = some (.cells #[a, b] t fr)) : w.cell? ⟨g, 0, none⟩ = some a ∧ w.cell? ⟨g, 1, none⟩ = some b := ⟨cell_of_row _ _ 0 _ _ _ h, cell_of_row _ _ 1 _ _ _ h⟩
/-- is there a shard of this number in a map -/
def partB (Ls : List (List Ent)) (i : Int) : Bool := validM Ls && decide (0 ≤ i) && decide (i < (Ls.length : Int))
set_option maxHeartbeats 4000000 in
set_option maxRecDepth 20000 in
theorem partOf_any (F : Nat → Prop) (Ls : List (List Ent)) (i : Int) (a : Option Addr) (n c : Nat) (w : World) (hl : MList w F a n c Ls) :
    Calls Try.prog 38 #[mapV a n c, .int .i64 i] w fun r w' => r = .returned (.tuple #[partV a n c i, .bool (partB Ls i)]) ∧ Below w.heap.size w w' := by
  have hlen := hl.length
  have hA := (Below.refl w.heap.size w).alloc (Nat.le_refl _) (mapRow a n c)
  have hB := (hA.alloc hA.size (partRow none 0 0 0)).alloc (Nat.le_trans hA.size (by simp)) (partRow a n c i)
  have hm0 := heap_alloc_new w (mapRow a n c)
  have hm1 := e_al hm0 (partRow none 0 0 0)
  have hq0 : (((w.alloc (mapRow a n c)).alloc (partRow none 0 0 0)).alloc (partRow a n c i)).heap[w.heap.size + 1]? = some (partRow none 0 0 0) := e_al (heap_second w (mapRow a n c) (partRow none 0 0 0)) (partRow a n c i)
  have hp0 : (((w.alloc (mapRow a n c)).alloc (partRow none 0 0 0)).alloc (partRow a n c i)).heap[w.heap.size + 1 + 1]? = some (partRow a n c i) := by
    have := heap_alloc_new ((w.alloc (mapRow a n c)).alloc (partRow none 0 0 0)) (partRow a n c i)
    simp only [World.size_alloc] at this
    exact this
  have HV := Lib.hid (fun W (h : Below w.heap.size w W) => pvalid_any _ Ls a n c W (hl.same h))
  unfold partB
  rw [hlen]
  generalize validM Ls = V at *
  clear hl
  have hcases : (V = false) ∨ (V = true ∧ ¬ 0 ≤ i) ∨ (V = true ∧ 0 ≤ i ∧ ¬ i < (n : Int)) ∨ (V = true ∧ 0 ≤ i ∧ i < (n : Int)) := by
    cases V
    · exact .inl rfl
    · by_cases h1 : 0 ≤ i
      · by_cases h2 : i < (n : Int)
        · exact .inr (.inr (.inr ⟨rfl, h1, h2⟩))
        · exact .inr (.inr (.inl ⟨rfl, h1, h2⟩))
      · exact .inr (.inl ⟨rfl, h1⟩)
  have hres : ∃ R, R = (V && decide (0 ≤ i) && decide (i < (n : Int))) := ⟨_, rfl⟩
  obtain ⟨R, hR⟩ := hres
  rw [← hR]
  have HR := Lib.hid hR
  clear hR
  rcases hcases with rfl | ⟨rfl, g1⟩ | ⟨rfl, g1, g2⟩ | ⟨rfl, g1, g2⟩
  ·
    skip
    go_enter Try.func38, Try.ntmps38
    go_wp2_with (first
      | ((with_reducible refine Plan.load_lit 24 (.tmp 2) w.heap.size ?_ hm1 Try.underlying24 ?_ ?_ ?_); (· rfl); (· rfl); (· exact map_info); simp only [Act.put, List.setIfInBounds_toArray, List.set_cons_zero, List.set_cons_succ]))
    generalize hw0 : ((w.alloc (mapRow a n c)).alloc (partRow none 0 0 0)).alloc (partRow a n c i) = w0 at *
    refine Plan.start (fun W => W.cell? ⟨w.heap.size + 1 + 1, 0, none⟩ = some (.slice a n c) ∧ W.cell? ⟨w.heap.size + 1 + 1, 1, none⟩ = some (.int .i64 i)) [(0, true), (1, true), (2, true), (3, false), (4, true), (5, true), (6, true), (7, true), (8, true), (9, true), (10, true), (11, true), (12, true), (13, true), (14, true), (15, true), (16, true), (17, false), (18, true)] (by kernel_rfl) (by kernel_rfl) (by kernel_rfl) (by kernel_rfl) (part_row hp0) ?_
    simp only [List.map_cons, List.map_nil, List.getElem?_toArray, List.getElem?_cons_zero, List.getElem?_cons_succ]
    repeat (first | (refine Plan.take ?_ (by rfl) ?_ ?_; rotate_left; (· rintro w9 ⟨u0, u1⟩; go_simp; (try rw [if_neg (by omega)]); all_goals (with_reducible rfl)); simp only [Act.put, List.setIfInBounds_toArray, List.set_cons_zero, List.set_cons_succ]) | (refine Plan.pass (by rfl) ?_; simp only [Act.put, List.setIfInBounds_toArray, List.set_cons_zero, List.set_cons_succ]))
    refine Plan.call (by rfl) 49 _ ?_ (HV.out _ hB.drew) ?_
    · go_simp
    rintro e9 w1 ⟨rfl, h1⟩
    have b1 := hB.drew.trans (h1.mono hB.drew.size)
    have hq1 := e_on h1 (show w0.drew.heap[w.heap.size + 1]? = _ from hq0) (e_lt hq0)
    have hp1 := e_on h1 (show w0.drew.heap[w.heap.size + 1 + 1]? = _ from hp0) (e_lt hp0)
    refine ⟨_, rfl, part_row hp1, ?_⟩
    simp only [Act.put, List.setIfInBounds_toArray, List.set_cons_zero, List.set_cons_succ]
    repeat (first | (refine Plan.take ?_ (by rfl) ?_ ?_; rotate_left; (· rintro w9 ⟨u0, u1⟩; go_simp; (try rw [if_neg (by omega)]); all_goals (with_reducible rfl)); simp only [Act.put, List.setIfInBounds_toArray, List.set_cons_zero, List.set_cons_succ]) | (refine Plan.pass (by rfl) ?_; simp only [Act.put, List.setIfInBounds_toArray, List.set_cons_zero, List.set_cons_succ]))
    refine Plan.store (by rfl) 70 (.tmp 4) (.tmp 11) rfl (w.heap.size + 1) #[.slice a n c, .int .i64 i] rfl rfl 70 _ hq1 part_info rfl (by simp [Value.oneCell']) (part_row ((setRow_other _ (w.heap.size + 1) (w.heap.size + 1 + 1) _ (by omega)).trans hp1)) ?_
    simp only [Act.put]
    repeat (first | (refine Plan.take ?_ (by rfl) ?_ ?_; rotate_left; (· rintro w9 ⟨u0, u1⟩; go_simp; (try rw [if_neg (by omega)]); all_goals (with_reducible rfl)); simp only [Act.put, List.setIfInBounds_toArray, List.set_cons_zero, List.set_cons_succ]) | (refine Plan.pass (by rfl) ?_; simp only [Act.put, List.setIfInBounds_toArray, List.set_cons_zero, List.set_cons_succ]))
    refine Plan.ends ?_
    have hqf := setRow_heap w1 (w.heap.size + 1) _ #[.slice a n c, .int .i64 i] _ _ hq1
    have bf := below_setRow b1 (show w.heap.size ≤ w.heap.size + 1 by omega) #[.slice a n c, .int .i64 i]
    clear hp1 hq1 hm1
    go_wp2_with fail
    exact bodyPost_ret (Plan.results_cell_tmp (p := 4) (q := 5) rfl _ _ _ _ _ _ _ rfl hqf Try.underlying70 rfl part_info) rfl ⟨by rw [HR.out]; rfl, bf⟩
  ·
    have d1 : decide (0 ≤ i) = false := by simpa using g1
    go_enter Try.func38, Try.ntmps38
    go_wp2_with (first
      | ((with_reducible refine Plan.load_lit 24 (.tmp 2) w.heap.size ?_ hm1 Try.underlying24 ?_ ?_ ?_); (· rfl); (· rfl); (· exact map_info); simp only [Act.put, List.setIfInBounds_toArray, List.set_cons_zero, List.set_cons_succ]))
    generalize hw0 : ((w.alloc (mapRow a n c)).alloc (partRow none 0 0 0)).alloc (partRow a n c i) = w0 at *
    refine Plan.start (fun W => W.cell? ⟨w.heap.size + 1 + 1, 0, none⟩ = some (.slice a n c) ∧ W.cell? ⟨w.heap.size + 1 + 1, 1, none⟩ = some (.int .i64 i)) [(0, true), (1, true), (2, true), (3, false), (4, true), (5, true), (6, true), (7, true), (8, true), (9, true), (10, true), (11, true), (12, true), (13, true), (14, true), (15, true), (16, true), (17, false), (18, true)] (by kernel_rfl) (by kernel_rfl) (by kernel_rfl) (by kernel_rfl) (part_row hp0) ?_
    simp only [List.map_cons, List.map_nil, List.getElem?_toArray, List.getElem?_cons_zero, List.getElem?_cons_succ]
    repeat (first | (refine Plan.take ?_ (by rfl) ?_ ?_; rotate_left; (· rintro w9 ⟨u0, u1⟩; go_simp; (try rw [if_neg (by omega)]); all_goals (with_reducible rfl)); simp only [Act.put, List.setIfInBounds_toArray, List.set_cons_zero, List.set_cons_succ]) | (refine Plan.pass (by rfl) ?_; simp only [Act.put, List.setIfInBounds_toArray, List.set_cons_zero, List.set_cons_succ]))
    refine Plan.call (by rfl) 49 _ ?_ (HV.out _ hB.drew) ?_
    · go_simp
    rintro e9 w1 ⟨rfl, h1⟩
    have b1 := hB.drew.trans (h1.mono hB.drew.size)
    have hq1 := e_on h1 (show w0.drew.heap[w.heap.size + 1]? = _ from hq0) (e_lt hq0)
    have hp1 := e_on h1 (show w0.drew.heap[w.heap.size + 1 + 1]? = _ from hp0) (e_lt hp0)
    refine ⟨_, rfl, part_row hp1, ?_⟩
    simp only [Act.put, List.setIfInBounds_toArray, List.set_cons_zero, List.set_cons_succ]
    repeat (first | (refine Plan.take ?_ (by rfl) ?_ ?_; rotate_left; (· rintro w9 ⟨u0, u1⟩; go_simp; (try rw [if_neg (by omega)]); all_goals (with_reducible rfl)); simp only [Act.put, List.setIfInBounds_toArray, List.set_cons_zero, List.set_cons_succ]) | (refine Plan.pass (by rfl) ?_; simp only [Act.put, List.setIfInBounds_toArray, List.set_cons_zero, List.set_cons_succ]))
    refine Plan.store (by rfl) 70 (.tmp 4) (.tmp 11) rfl (w.heap.size + 1) #[.slice a n c, .int .i64 i] rfl rfl 70 _ hq1 part_info rfl (by simp [Value.oneCell']) (part_row ((setRow_other _ (w.heap.size + 1) (w.heap.size + 1 + 1) _ (by omega)).trans hp1)) ?_
    simp only [Act.put]
    repeat (first | (refine Plan.take ?_ (by rfl) ?_ ?_; rotate_left; (· rintro w9 ⟨u0, u1⟩; go_simp; (try rw [if_neg (by omega)]); all_goals (with_reducible rfl)); simp only [Act.put, List.setIfInBounds_toArray, List.set_cons_zero, List.set_cons_succ]) | (refine Plan.pass (by rfl) ?_; simp only [Act.put, List.setIfInBounds_toArray, List.set_cons_zero, List.set_cons_succ]))
    refine Plan.ends ?_
    have hqf := setRow_heap w1 (w.heap.size + 1) _ #[.slice a n c, .int .i64 i] _ _ hq1
    have bf := below_setRow b1 (show w.heap.size ≤ w.heap.size + 1 by omega) #[.slice a n c, .int .i64 i]
    clear hp1 hq1 hm1
    go_wp2_with fail
    exact bodyPost_ret (Plan.results_cell_tmp (p := 4) (q := 5) rfl _ _ _ _ _ _ _ rfl hqf Try.underlying70 rfl part_info) rfl ⟨by rw [HR.out]; rw [d1]; rfl, bf⟩
  ·
    have d1 : decide (0 ≤ i) = true := by simpa using g1
    have d2 : decide (i < (n : Int)) = false := by simpa using g2
    go_enter Try.func38, Try.ntmps38
    go_wp2_with (first
      | ((with_reducible refine Plan.load_lit 24 (.tmp 2) w.heap.size ?_ hm1 Try.underlying24 ?_ ?_ ?_); (· rfl); (· rfl); (· exact map_info); simp only [Act.put, List.setIfInBounds_toArray, List.set_cons_zero, List.set_cons_succ]))
    generalize hw0 : ((w.alloc (mapRow a n c)).alloc (partRow none 0 0 0)).alloc (partRow a n c i) = w0 at *
    refine Plan.start (fun W => W.cell? ⟨w.heap.size + 1 + 1, 0, none⟩ = some (.slice a n c) ∧ W.cell? ⟨w.heap.size + 1 + 1, 1, none⟩ = some (.int .i64 i)) [(0, true), (1, true), (2, true), (3, false), (4, true), (5, true), (6, true), (7, true), (8, true), (9, true), (10, true), (11, true), (12, true), (13, true), (14, true), (15, true), (16, true), (17, false), (18, true)] (by kernel_rfl) (by kernel_rfl) (by kernel_rfl) (by kernel_rfl) (part_row hp0) ?_
    simp only [List.map_cons, List.map_nil, List.getElem?_toArray, List.getElem?_cons_zero, List.getElem?_cons_succ]
    repeat (first | (refine Plan.take ?_ (by rfl) ?_ ?_; rotate_left; (· rintro w9 ⟨u0, u1⟩; go_simp; (try rw [if_neg (by omega)]); all_goals (with_reducible rfl)); simp only [Act.put, List.setIfInBounds_toArray, List.set_cons_zero, List.set_cons_succ]) | (refine Plan.pass (by rfl) ?_; simp only [Act.put, List.setIfInBounds_toArray, List.set_cons_zero, List.set_cons_succ]))
    refine Plan.call (by rfl) 49 _ ?_ (HV.out _ hB.drew) ?_
    · go_simp
    rintro e9 w1 ⟨rfl, h1⟩
    have b1 := hB.drew.trans (h1.mono hB.drew.size)
    have hq1 := e_on h1 (show w0.drew.heap[w.heap.size + 1]? = _ from hq0) (e_lt hq0)
    have hp1 := e_on h1 (show w0.drew.heap[w.heap.size + 1 + 1]? = _ from hp0) (e_lt hp0)
    refine ⟨_, rfl, part_row hp1, ?_⟩
    simp only [Act.put, List.setIfInBounds_toArray, List.set_cons_zero, List.set_cons_succ]
    repeat (first | (refine Plan.take ?_ (by rfl) ?_ ?_; rotate_left; (· rintro w9 ⟨u0, u1⟩; go_simp; (try rw [if_neg (by omega)]); all_goals (with_reducible rfl)); simp only [Act.put, List.setIfInBounds_toArray, List.set_cons_zero, List.set_cons_succ]) | (refine Plan.pass (by rfl) ?_; simp only [Act.put, List.setIfInBounds_toArray, List.set_cons_zero, List.set_cons_succ]))
    refine Plan.store (by rfl) 70 (.tmp 4) (.tmp 11) rfl (w.heap.size + 1) #[.slice a n c, .int .i64 i] rfl rfl 70 _ hq1 part_info rfl (by simp [Value.oneCell']) (part_row ((setRow_other _ (w.heap.size + 1) (w.heap.size + 1 + 1) _ (by omega)).trans hp1)) ?_
    simp only [Act.put]
    repeat (first | (refine Plan.take ?_ (by rfl) ?_ ?_; rotate_left; (· rintro w9 ⟨u0, u1⟩; go_simp; (try rw [if_neg (by omega)]); all_goals (with_reducible rfl)); simp only [Act.put, List.setIfInBounds_toArray, List.set_cons_zero, List.set_cons_succ]) | (refine Plan.pass (by rfl) ?_; simp only [Act.put, List.setIfInBounds_toArray, List.set_cons_zero, List.set_cons_succ]))
    refine Plan.ends ?_
    have hqf := setRow_heap w1 (w.heap.size + 1) _ #[.slice a n c, .int .i64 i] _ _ hq1
    have bf := below_setRow b1 (show w.heap.size ≤ w.heap.size + 1 by omega) #[.slice a n c, .int .i64 i]
    clear hp1 hq1 hm1
    go_wp2_with fail
    exact bodyPost_ret (Plan.results_cell_tmp (p := 4) (q := 5) rfl _ _ _ _ _ _ _ rfl hqf Try.underlying70 rfl part_info) rfl ⟨by rw [HR.out]; rw [d1, d2]; rfl, bf⟩
  ·
    have d1 : decide (0 ≤ i) = true := by simpa using g1
    have d2 : decide (i < (n : Int)) = true := by simpa using g2
    go_enter Try.func38, Try.ntmps38
    go_wp2_with (first
      | ((with_reducible refine Plan.load_lit 24 (.tmp 2) w.heap.size ?_ hm1 Try.underlying24 ?_ ?_ ?_); (· rfl); (· rfl); (· exact map_info); simp only [Act.put, List.setIfInBounds_toArray, List.set_cons_zero, List.set_cons_succ]))
    generalize hw0 : ((w.alloc (mapRow a n c)).alloc (partRow none 0 0 0)).alloc (partRow a n c i) = w0 at *
    refine Plan.start (fun W => W.cell? ⟨w.heap.size + 1 + 1, 0, none⟩ = some (.slice a n c) ∧ W.cell? ⟨w.heap.size + 1 + 1, 1, none⟩ = some (.int .i64 i)) [(0, true), (1, true), (2, true), (3, false), (4, true), (5, true), (6, true), (7, true), (8, true), (9, true), (10, true), (11, true), (12, true), (13, true), (14, true), (15, true), (16, true), (17, false), (18, true)] (by kernel_rfl) (by kernel_rfl) (by kernel_rfl) (by kernel_rfl) (part_row hp0) ?_
    simp only [List.map_cons, List.map_nil, List.getElem?_toArray, List.getElem?_cons_zero, List.getElem?_cons_succ]
    repeat (first | (refine Plan.take ?_ (by rfl) ?_ ?_; rotate_left; (· rintro w9 ⟨u0, u1⟩; go_simp; (try rw [if_neg (by omega)]); all_goals (with_reducible rfl)); simp only [Act.put, List.setIfInBounds_toArray, List.set_cons_zero, List.set_cons_succ]) | (refine Plan.pass (by rfl) ?_; simp only [Act.put, List.setIfInBounds_toArray, List.set_cons_zero, List.set_cons_succ]))
    refine Plan.call (by rfl) 49 _ ?_ (HV.out _ hB.drew) ?_
    · go_simp
    rintro e9 w1 ⟨rfl, h1⟩
    have b1 := hB.drew.trans (h1.mono hB.drew.size)
    have hq1 := e_on h1 (show w0.drew.heap[w.heap.size + 1]? = _ from hq0) (e_lt hq0)
    have hp1 := e_on h1 (show w0.drew.heap[w.heap.size + 1 + 1]? = _ from hp0) (e_lt hp0)
    refine ⟨_, rfl, part_row hp1, ?_⟩
    simp only [Act.put, List.setIfInBounds_toArray, List.set_cons_zero, List.set_cons_succ]
    repeat (first | (refine Plan.take ?_ (by rfl) ?_ ?_; rotate_left; (· rintro w9 ⟨u0, u1⟩; go_simp; (try rw [if_neg (by omega)]); all_goals (with_reducible rfl)); simp only [Act.put, List.setIfInBounds_toArray, List.set_cons_zero, List.set_cons_succ]) | (refine Plan.pass (by rfl) ?_; simp only [Act.put, List.setIfInBounds_toArray, List.set_cons_zero, List.set_cons_succ]))
    refine Plan.store (by rfl) 70 (.tmp 4) (.tmp 11) rfl (w.heap.size + 1) #[.slice a n c, .int .i64 i] rfl rfl 70 _ hq1 part_info rfl (by simp [Value.oneCell']) (part_row ((setRow_other _ (w.heap.size + 1) (w.heap.size + 1 + 1) _ (by omega)).trans hp1)) ?_
    simp only [Act.put]
    repeat (first | (refine Plan.take ?_ (by rfl) ?_ ?_; rotate_left; (· rintro w9 ⟨u0, u1⟩; go_simp; (try rw [if_neg (by omega)]); all_goals (with_reducible rfl)); simp only [Act.put, List.setIfInBounds_toArray, List.set_cons_zero, List.set_cons_succ]) | (refine Plan.pass (by rfl) ?_; simp only [Act.put, List.setIfInBounds_toArray, List.set_cons_zero, List.set_cons_succ]))
    refine Plan.ends ?_
    have hqf := setRow_heap w1 (w.heap.size + 1) _ #[.slice a n c, .int .i64 i] _ _ hq1
    have bf := below_setRow b1 (show w.heap.size ≤ w.heap.size + 1 by omega) #[.slice a n c, .int .i64 i]
    clear hp1 hq1 hm1
    go_wp2_with fail
    exact bodyPost_ret (Plan.results_cell_tmp (p := 4) (q := 5) rfl _ _ _ _ _ _ _ rfl hqf Try.underlying70 rfl part_info) rfl ⟨by rw [HR.out]; rw [d1, d2]; rfl, bf⟩
set_option maxHeartbeats 1000000 in
theorem plist_any (x : Addr) (n c k : Nat) (b : Option Addr) (m kk : Nat) (w : World) (hk : k < n) (hx : x.block < w.heap.size) (hc : w.cell? (x.add k) = some (.slice b m kk)) :
    Calls Try.prog 40 #[partV (some x) n c k] w fun r w' => r = .returned (.slice b m kk) ∧ Below w.heap.size w w' := by
  have hA := (Below.refl w.heap.size w).alloc (Nat.le_refl _) (partRow (some x) n c k)
  have hr0 := heap_alloc_new w (partRow (some x) n c k)
  have hkI : (k : Int) < (n : Int) := by omega
  have hc1 : (w.alloc (partRow (some x) n c k)).cell? (x.add k) = some (.slice b m kk) := (hA.cell (by rw [ent_add_block]; exact hx)).trans hc
  obtain ⟨c0, c1⟩ := part_row hr0
  clear hc
  go_enter Try.func40, Try.ntmps40
  generalize hw0 : w.alloc (partRow (some x) n c k) = w0 at *
  go_wp2_with fail
  go_ret
  exact ⟨rfl, hA⟩
set_option maxHeartbeats 1000000 in
theorem mclone_any (C : List Value) (x : Addr) (n c : Nat) (w : World) (hx : x.block < w.heap.size) (hC : ∀ j u, C[j]? = some u → w.cell? (x.add j) = some u) (hCl : C.length = n) (h1 : ∀ u ∈ C, u.oneCell' = true) (hn : 0 < n) (hm : n ≤ 1000) :
    Calls Try.prog 57 #[.slice (some x) n c] w fun r w' => ∃ g c', r = .returned (.slice (some ⟨g, 0, none⟩) n c') ∧ w.heap.size ≤ g ∧ g < w'.heap.size ∧ w'.ownsRow w.heap.size 49 1 (.slice (some ⟨g, 0, none⟩) n c') n C ∧ Below w.heap.size w w' := by
  obtain ⟨i1, hi1, hy0, hy1, hy2⟩ := info_parts sl_info
  have hA := (Below.refl w.heap.size w).alloc (Nat.le_refl _) (.cells #[] 49)
  have HC2 := Lib.hid (fun j u (hu : C[j]? = some u) => (hA.cell (show (x.add j).block < w.heap.size by rw [ent_add_block]; exact hx)).trans (hC j u hu))
  have HC3 := Lib.hid h1
  have HO3 := Lib.hid (slices_empty w (H := w.heap.size) rfl)
  have q22 : ∀ (w : World) (a : Option Addr) (n c n' c' : Nat), (binOp .eql 22 (.slice a n c) (.slice none n' c')).run Try.prog w = .ok (.bool a.isNone) w := fun w a n c n' c' => Lib.run_eql_slice_nil w _ _ a n c n' c' Try.underlying22
  clear hC h1
  go_enter Try.func57, Try.ntmps57
  go_wp2_with (first
    | (at_builtin; refine wpList_append_lies _ rfl _ _ 22 rfl w.heap.size 49 i1 _ 1 24 Try.underlying22 hi1 hy0 hy1 hy2 rfl (by decide) _ 0 [] (by rfl) HO3.out x n c C rfl (by omega) HC2.out HC3.out (by omega) (by unfold maxLen; omega) (by omega) (by simp) _ rfl ?_; intro g7 c7 w7 hown7 hgrow7 hat7 hlt7; rw [Nat.zero_add, List.nil_append] at hown7; have hg7 := hown7.lt g7 rfl; have b7 := hA.grown hgrow7 hA.size (fun z9 h9 => by have h8 := Option.some.inj (show some w.heap.size = some z9 from h9); omega)))
  go_ret
  exact ⟨g7, c7, rfl, hg7.1, hg7.2, hown7, b7⟩
end Go.Proofs.Ytljobnfilnbefaa.Ents

/- The walk of the program's with of a map. -/
namespace Go.Proofs.Ytljobnfilnbefaa.Ents
open Go.RowKit Plan EntMath
theorem run_store_slice_m (w : World) (ty : TypeId) (b o : Nat) (sa : Option Addr) (sl sc : Nat) (hc : ∃ u, w.cell? ⟨b, o, none⟩ = some u) (hf : w.frozen? ⟨b, o, none⟩ = false) (hi : (Try.prog.info? ty).map (·.size) = some 1) :
    (storeVar ty ⟨b, o, none⟩ (.slice sa sl sc)).run Try.prog w = .ok () (w.setCell ⟨b, o, none⟩ (.slice sa sl sc)) := by
  obtain ⟨u, hu⟩ := hc
  cases hq : Try.prog.info? ty with
  | none => simp [hq] at hi
  | some i =>
    have hs : i.size = 1 := by simpa [hq] using hi
    have hst := run_store Try.prog w ⟨b, o, none⟩ (.slice sa sl sc) .plain rfl
    rw [hu, hf] at hst
    simp only [Bool.false_eq_true, if_false] at hst
    have ha : (⟨b, o, none⟩ : Addr).add 0 = ⟨b, o, none⟩ := by rw [Addr.add_lit, Nat.add_zero]
    simp [storeVar, sizeOf, typeInfo, hq, Value.cells, hs, storeCells, ha, hst]
theorem wp_store_slice_m {op : Oper} {a : Act} {w : World} {K : Act → World → Prop} {Q : Exit → Act → World → Prop} (ty : TypeId) (x y : Operand) (ho : op.op = .store ty x y)
    (b o : Nat) (sa : Option Addr) (sl sc : Nat) (hx : a.eval x = .pointer (some ⟨b, o, none⟩)) (hy : a.eval y = .slice sa sl sc) (hc : ∃ u, w.cell? ⟨b, o, none⟩ = some u) (hf : w.frozen? ⟨b, o, none⟩ = false) (hi : (Try.prog.info? ty).map (·.size) = some 1)
    (h : K (a.put op.dst undef) (w.setCell ⟨b, o, none⟩ (.slice sa sl sc))) : op.wp Try.prog a w K Q := by
  unfold Oper.wp execOp
  simp only [ho, hx, hy, Instr.storeAt, Instr.sureAddr, Sem.run_bind, Sem.run_pure, Result.andThen_ok, run_store_slice_m w ty b o sa sl sc hc hf hi]
  exact h
/-- the store of a list into a cell -/
theorem store_slice_m {ops : Array Oper} {rest : List Oper} {a : Act} {w : World} {Q : Exit → Act → World → Prop} (ty : TypeId) (x y : Operand) {t' : TypeId} {pos : String} {after : Array Edge}
    (b o : Nat) (sa : Option Addr) (sl sc : Nat) (hx : a.eval x = .pointer (some ⟨b, o, none⟩)) (hy : a.eval y = .slice sa sl sc) (hc : ∃ u, w.cell? ⟨b, o, none⟩ = some u) (hf : w.frozen? ⟨b, o, none⟩ = false) (hi : (Try.prog.info? ty).map (·.size) = some 1)
    (h : wpList Try.prog ops Q rest (a.put none undef) (w.setCell ⟨b, o, none⟩ (.slice sa sl sc))) : wpList Try.prog ops Q (⟨none, .store ty x y, t', pos, after, none⟩ :: rest) a w :=
  wpList_plain rfl fun _ hK => wp_store_slice_m ty x y rfl b o sa sl sc hx hy hc hf hi (hK _ _ h)
theorem sls_info1 : (Try.prog.info? 22).map (·.size) = some 1 := by kernel_rfl
theorem sl_info1 : (Try.prog.info? 49).map (·.size) = some 1 := by kernel_rfl
theorem free_row {w : World} {g o : Nat} {cs : Array Value} {t : TypeId} (h : w.heap[g]? = some (.cells cs t (0, 0))) : w.frozen? ⟨g, o, none⟩ = false := by simp [World.frozen?, h]
set_option maxHeartbeats 2000000 in
set_option maxRecDepth 20000 in
theorem pwith_any (F : Nat → Prop) (Ls : List (List Ent)) (a : Option Addr) (n c i : Nat) (L : List Ent) (b : Option Addr) (m k : Nat) (w : World) (hl : MList w F a n c Ls) (hi : i < n) (hL : EList w F b m k L) (hn : n ≤ 1000) :
    Calls Try.prog 41 #[partV a n c i, .slice b m k] w fun r w' => ∃ g c', r = .returned (mapV (some ⟨g, 0, none⟩) n c') ∧ MList w' (Plus F w.heap.size) (some ⟨g, 0, none⟩) n c' (Ls.set i L) ∧ Below w.heap.size w w' := by
  have hlen := hl.length
  obtain ⟨x, rfl⟩ : ∃ x, a = some x := by
    rcases hl with ⟨_, rfl, _, _⟩ | ⟨x, rfl, _⟩
    · omega
    · exact ⟨x, rfl⟩
  have hxl : x.block < w.heap.size := by
    rcases hl with ⟨h, _⟩ | ⟨y, h, _, _, _, h5, _⟩
    · cases h
    · obtain rfl := Option.some.inj h
      exact h5
  have hiI : (i : Int) < (n : Int) := by omega
  obtain ⟨C, hC, hC2⟩ := hl.cells
  have hCl : C.length = n := hC.1.trans hlen
  have HCL := Lib.hid (fun W (h : Below w.heap.size w W) => mclone_any C x n c W (Nat.lt_of_lt_of_le hxl h.size) (fun j u hu => (h.cell (show (x.add j).block < w.heap.size by rw [ent_add_block]; exact hxl)).trans (hC2 j u hu)) hCl hC.flat (by omega) hn)
  have HCN := Lib.hid (fun W (h : Below w.heap.size w W) => (show MCells W (fun b => F b ∧ b < w.heap.size) (C.set i (.slice b m k)) (Ls.set i L) from
    ((hC.mono (G := fun b => F b ∧ b < w.heap.size) fun _ hb hf => ⟨hf, hb⟩).set (by omega) (hL.mono fun _ hb hf => ⟨hf, hb⟩)).on (Same.below h)))
  have hr0 := heap_alloc_new w (partRow (some x) n c i)
  have hA := (Below.refl w.heap.size w).alloc (Nat.le_refl _) (partRow (some x) n c i)
  have hB := (hA.alloc hA.size (mapRow none 0 0)).alloc (Nat.le_trans hA.size (by simp)) (mapRow (some x) n c)
  have hp0 : (((w.alloc (partRow (some x) n c i)).alloc (mapRow none 0 0)).alloc (mapRow (some x) n c)).heap[w.heap.size]? = some (partRow (some x) n c i) := e_al (e_al hr0 _) _
  have hq0 : (((w.alloc (partRow (some x) n c i)).alloc (mapRow none 0 0)).alloc (mapRow (some x) n c)).heap[w.heap.size + 1]? = some (mapRow none 0 0) := e_al (heap_second w (partRow (some x) n c i) (mapRow none 0 0)) _
  have hs0 : (((w.alloc (partRow (some x) n c i)).alloc (mapRow none 0 0)).alloc (mapRow (some x) n c)).heap[w.heap.size + 1 + 1]? = some (mapRow (some x) n c) := by
    have := heap_alloc_new ((w.alloc (partRow (some x) n c i)).alloc (mapRow none 0 0)) (mapRow (some x) n c)
    simp only [World.size_alloc] at this
    exact this
  obtain ⟨d0, d1⟩ := part_row (e_al hr0 (mapRow none 0 0))
  clear hC2 hC hl hL
  go_enter Try.func41, Try.ntmps41
  go_wp2_with (first
    | (go_at_call 57; ((with_reducible refine (HCL.out _ hB).mono ?_); rintro r9 w1 ⟨g1, c1, rfl, hg1, hl1, O1, h1⟩; have b1 := hB.trans (h1.mono hB.size); have hp1 := e_on h1 hp0 (e_lt hp0); have hq1 := e_on h1 hq0 (e_lt hq0); have hs1 := e_on h1 hs0 (e_lt hs0); have l0 := e_lt hs0; have n1 : g1 ≠ w.heap.size + 1 + 1 := (by omega); have n2 : g1 ≠ w.heap.size + 1 := (by omega); have n3 : w.heap.size ≤ g1 := (by omega); clear d0 d1 h1 hg1 l0))
    | ((with_reducible refine store_slice_m 22 (.tmp 14) (.tmp 13) (w.heap.size + 1 + 1) 0 (some ⟨g1, 0, none⟩) n c1 ?_ ?_ ⟨_, map_row hs1⟩ (free_row hs1) sls_info1 ?_); (· rfl); (· rfl); simp only [Act.put]; rw [setCell_eq_setRow _ _ _ _ _ _ _ hs1]; simp only [List.setIfInBounds_toArray, List.set_cons_zero]; have hs2 := setRow_heap w1 (w.heap.size + 1 + 1) _ #[.slice (some ⟨g1, 0, none⟩) n c1] _ _ hs1; have hp2 := (setRow_other w1 (w.heap.size + 1 + 1) w.heap.size #[.slice (some ⟨g1, 0, none⟩) n c1] (by omega)).trans hp1; have hq2 := (setRow_other w1 (w.heap.size + 1 + 1) (w.heap.size + 1) #[.slice (some ⟨g1, 0, none⟩) n c1] (by omega)).trans hq1; have b2 := below_setRow b1 (show w.heap.size ≤ w.heap.size + 1 + 1 by omega) #[.slice (some ⟨g1, 0, none⟩) n c1]; have O2 := O1.kept (sm_setRow w1 (w.heap.size + 1 + 1) #[.slice (some ⟨g1, 0, none⟩) n c1]) (.inr fun h9 => n1 (Option.some.inj h9)); obtain ⟨⟨u2, v2⟩, f2⟩ := sl_own_cell O2 hi; have e2 := map_row hs2; obtain ⟨d0, d1⟩ := part_row hp2; have hq3 := (Below.heap_setCell (w1.setRow (w.heap.size + 1 + 1) #[.slice (some ⟨g1, 0, none⟩) n c1]) ⟨g1, i, none⟩ (.slice b m k) (w.heap.size + 1) (by show w.heap.size + 1 ≠ g1; omega)).trans hq2; have b3 := b2.setCell (show w.heap.size ≤ (⟨g1, i, none⟩ : Addr).block by show w.heap.size ≤ g1; omega) (.slice b m k); have O3 := e_owns_cell O2 i (.slice b m k); have e3 := map_row ((Below.heap_setCell (w1.setRow (w.heap.size + 1 + 1) #[.slice (some ⟨g1, 0, none⟩) n c1]) ⟨g1, i, none⟩ (.slice b m k) (w.heap.size + 1 + 1) (by show w.heap.size + 1 + 1 ≠ g1; omega)).trans hs2); clear hp1 hq1 hs1 b1 O1; generalize w1.setRow (w.heap.size + 1 + 1) #[.slice (some ⟨g1, 0, none⟩) n c1] = w2 at *)
    | ((with_reducible refine Plan.store_lit 24 (.tmp 4) _ (w.heap.size + 1) ?_ hq3 ?_ ?_ ?_ ?_ ?_ ?_); rotate_left; (· rfl); (· rfl); (· exact map_info); (· rfl); (· simp [Value.oneCell']); simp only [Act.put]))
  have O9 := O3.kept (sm_setRow _ (w.heap.size + 1) #[.slice (some ⟨g1, 0, none⟩) n c1]) (.inr fun h9 => n2 (Option.some.inj h9))
  have b9 := below_setRow b3 (show w.heap.size ≤ w.heap.size + 1 by omega) #[.slice (some ⟨g1, 0, none⟩) n c1]
  have M9 := own_mlist (F := Plus F w.heap.size) O9 ((HCN.out _ b9).mono (fun _ _ h => .inl h.1)) (.inr (by omega))
  exact bodyPost_ret (results_cell_row rfl _ _ _ _ _ _ _ rfl (setRow_heap _ _ _ #[.slice (some ⟨g1, 0, none⟩) n c1] _ _ hq3) Try.underlying24 rfl map_info) rfl ⟨_, _, rfl, M9, b9⟩
end Go.Proofs.Ytljobnfilnbefaa.Ents

/- The walks of the library's Clone at entries and of the program's with. -/
namespace Go.Proofs.Ytljobnfilnbefaa.Ents
open Go.RowKit Plan EntMath
theorem own_some {w : World} {B n : Nat} {v : Value} {xs : List Value} (h : w.ownsRow B 28 6 v n xs) (hn : 0 < n) : ∃ g c, v = .slice (some ⟨g, 0, none⟩) n c ∧ B ≤ g ∧ g < w.heap.size := by
  rcases h.2 with ⟨_, h0⟩ | ⟨g, cap, cur, rfl, hb, hg, _⟩
  · omega
  · exact ⟨g, cap, rfl, hb, (Array.getElem?_eq_some_iff.1 hg).1⟩
/-- a list of the call's own, with its block -/
def OwnPost (w : World) (B : Nat) (L : List Ent) (r : Ending) (w' : World) : Prop :=
  ∃ g c, r = .returned (.slice (some ⟨g, 0, none⟩) L.length c) ∧ B ≤ g ∧ w'.ownsRow B 28 6 (.slice (some ⟨g, 0, none⟩) L.length c) L.length (ents L) ∧ Below B w w'
set_option maxHeartbeats 1000000 in
theorem clone_any (F : Nat → Prop) (L : List Ent) (x : Addr) (len cap : Nat) (w : World) (hl : EList w F (some x) len cap L) (hn : 0 < len) (hm : len ≤ 900000) :
    Calls Try.prog 69 #[.slice (some x) len cap] w (OwnPost w w.heap.size L) := by
  have hlen := hl.length
  have hA := (Below.refl w.heap.size w).alloc (Nat.le_refl _) (.cells #[] 28)
  have HL := Lib.hid (hl.low.on (Same.low hA))
  unfold OwnPost
  rw [hlen]
  clear hl
  have q22 : ∀ (w : World) (a : Option Addr) (n c n' c' : Nat), (binOp .eql 49 (.slice a n c) (.slice none n' c')).run Try.prog w = .ok (.bool a.isNone) w := fun w a n c n' c' => Lib.run_eql_slice_nil w _ _ a n c n' c' Try.underlying49
  go_enter Try.func69, Try.ntmps69
  go_wp2_with (first
    | (at_builtin; refine append_ents (F := fun b => b < w.heap.size) rfl (.tmp 5) (.tmp 6) rfl w.heap.size (.slice (some ⟨w.heap.size, 0, none⟩) 0 0) 0 [] rfl (ents_empty w rfl) (some x) len cap L rfl HL.out (by omega) (by simp) ?_; intro v7 w7 hown7 hgrow7; rw [Nat.zero_add, List.nil_append] at hown7; obtain ⟨g7, c7, rfl, hg7, hs7⟩ := own_some hown7 hn; have b7 := hA.grown hgrow7 hA.size (fun z9 h9 => by have h8 := Option.some.inj (show some w.heap.size = some z9 from h9); omega)))
  go_ret
  exact ⟨g7, c7, rfl, hg7, hown7, b7⟩
theorem ents_set {L : List Ent} {k : Nat} (h : k < L.length) (e : Ent) : ents (L.set k e) = ((((((ents L).set (k * 6) (.int .i64 e.block)).set (k * 6 + 1) (.int .i64 e.kind)).set (k * 6 + 2) (.int .i64 e.version)).set (k * 6 + 3) (.int .i64 e.move)).set (k * 6 + 4) (.int .i64 e.zone)).set (k * 6 + 5) (.int .i64 e.offset) := by
  induction L generalizing k with
  | nil => cases h
  | cons x L ih =>
    cases k with
    | zero => simp [ents_cons, entC]
    | succ k =>
      have hs : ∀ (M : List Value) j u, (entC x ++ M).set (j + 6) u = entC x ++ M.set j u := fun M j u => by simp [entC]
      rw [List.set_cons_succ, ents_cons, ents_cons, ih (Nat.lt_of_succ_lt_succ h)]
      rw [show (k + 1) * 6 = k * 6 + 6 by omega, hs, show k * 6 + 6 + 1 = (k * 6 + 1) + 6 by omega, hs, show k * 6 + 6 + 2 = (k * 6 + 2) + 6 by omega, hs, show k * 6 + 6 + 3 = (k * 6 + 3) + 6 by omega, hs, show k * 6 + 6 + 4 = (k * 6 + 4) + 6 by omega, hs, show k * 6 + 6 + 5 = (k * 6 + 5) + 6 by omega, hs]
/-- the store of an entry into a list of the call's own -/
theorem own_set {w : World} {B g n c k : Nat} {L : List Ent} (h : w.ownsRow B 28 6 (.slice (some ⟨g, 0, none⟩) n c) n (ents L)) (hl : L.length = n) (hk : k < n) (e : Ent) :
    (w.setCells g (k * 6) (entC e)).ownsRow B 28 6 (.slice (some ⟨g, 0, none⟩) n c) n (ents (L.set k e)) := by
  rw [ents_set (by omega)]
  exact e_owns_cell (e_owns_cell (e_owns_cell (e_owns_cell (e_owns_cell (e_owns_cell h _ _) _ _) _ _) _ _) _ _) _ _
theorem own_there {w : World} {B g n c k : Nat} {L : List Ent} (h : w.ownsRow B 28 6 (.slice (some ⟨g, 0, none⟩) n c) n (ents L)) (hl : L.length = n) (hk : k < n) : w.there g (k * 6) 6 := by
  have hC : (ents L).length = n * 6 := by rw [ents_length, hl]
  intro j hj
  obtain ⟨⟨u, hu⟩, hf⟩ := e_owns_one h (j := k * 6 + j) (by omega)
  exact ⟨by rw [hu]; rfl, hf⟩
theorem below_setCells {B g o : Nat} {w0 w : World} (h : Below B w0 w) (hg : B ≤ g) (e : Ent) : Below B w0 (w.setCells g o (entC e)) :=
  (((((h.setCell hg _).setCell hg _).setCell hg _).setCell hg _).setCell hg _).setCell hg _
/-- the index of a list and the store of an entry there -/
theorem idx_store_ent {P : Program} {ops : Array Oper} {rest : List Oper} {a : Act} {w : World} {Q : Exit → Act → World → Prop} (tt ty : TypeId) (d : Tmp) (s i y : Operand) {t1 t' : TypeId} {pos1 pos : String} {after1 after : Array Edge}
    (g o : Nat) (e : Ent) (hv : (execOp a.eval ⟨some d, .indexAddr tt s i, t1, pos1, after1, none⟩).run P w = .ok (.value (.pointer (some ⟨g, o, none⟩))) w)
    (hx : (a.put (some d) (.pointer (some ⟨g, o, none⟩))).eval (.tmp d) = .pointer (some ⟨g, o, none⟩)) (hy : (a.put (some d) (.pointer (some ⟨g, o, none⟩))).eval y = entV e) (ht : w.there g o 6) (hi : (P.info? ty).map (·.size) = some 6)
    (h : ∀ w', w' = w.setCells g o (entC e) → wpList P ops Q rest ((a.put (some d) (.pointer (some ⟨g, o, none⟩))).put none undef) w') :
    wpList P ops Q (⟨some d, .indexAddr tt s i, t1, pos1, after1, none⟩ :: ⟨none, .store ty (.tmp d) y, t', pos, after, none⟩ :: rest) a w :=
  wpList_plain rfl fun _ hK => by
    unfold Oper.wp
    rw [hv]
    exact hK _ _ (wpList_store_mid rfl ty (.tmp d) y rfl g o (entC e).toArray hx hy ht hi (by simp [entC, Value.oneCell']) (h _ rfl))
/-- what a function that gives a list leaves -/
def ListPost (w : World) (F : Nat → Prop) (L : List Ent) (r : Ending) (w' : World) : Prop :=
  ∃ a n c, r = .returned (.slice a n c) ∧ EList w' (Plus F w.heap.size) a n c L ∧ Below w.heap.size w w'
set_option maxHeartbeats 1000000 in
set_option maxRecDepth 20000 in
theorem with_any (F : Nat → Prop) (L : List Ent) (e : Ent) (x : Addr) (len cap k : Nat) (w : World) (hl : EList w F (some x) len cap L) (hk : k < len) (hm : len ≤ 900000) :
    Calls Try.prog 61 #[.slice (some x) len cap, .int .i64 k, entV e] w (ListPost w F (L.set k e)) := by
  have hlen := hl.length
  have hA := (Below.refl w.heap.size w).alloc (Nat.le_refl _) (entRow e.block e.kind e.version e.move e.zone e.offset)
  have hx0 := heap_alloc_new w (entRow e.block e.kind e.version e.move e.zone e.offset)
  have HC := Lib.hid (clone_any _ L x len cap _ (hl.low.on (Same.low hA)) (by omega) hm)
  unfold OwnPost at HC
  rw [hlen] at HC
  unfold ListPost
  clear hl
  have hkI : (k : Int) < (len : Int) := by omega
  obtain ⟨eb, ek, ev, em, ez, eo⟩ := e
  try simp only at HC hA hx0
  go_enter Try.func61, Try.ntmps61
  generalize hw0 : w.alloc (entRow eb ek ev em ez eo) = w0 at *
  go_wp2_with (first
    | (go_at_call 69; ((with_reducible refine HC.out.mono ?_); rintro e9 w1 ⟨g1, c1, rfl, hg1, hown1, h1⟩; have b1 := hA.trans (h1.mono hA.size); have hx1 := e_on h1 hx0 (e_lt hx0); have T1 := own_there hown1 hlen hk; have O1 := Lib.hid (own_set hown1 hlen hk ⟨eb, ek, ev, em, ez, eo⟩); have hsz0 := hA.size; obtain ⟨d0, d1, d2, d3, d4, d5⟩ := entry_row hx1))
    | ((with_reducible refine idx_store_ent 49 28 13 (.tmp 10) (.tmp 11) (.tmp 12) g1 (k * 6) ⟨eb, ek, ev, em, ez, eo⟩ ?_ ?_ ?_ T1 ?_ ?_); (· go_simp); (· rfl); (· rfl); (· exact entry_info); intro w9 e9; have O9 := O1.out; rw [← e9] at O9; have b9 := below_setCells (o := k * 6) b1 (show w.heap.size ≤ g1 by omega) ⟨eb, ek, ev, em, ez, eo⟩; rw [← e9] at b9; clear e9; simp only [Act.put, List.setIfInBounds_toArray, List.set_cons_zero, List.set_cons_succ]))
  go_ret
  obtain ⟨-, a7, c7, h7, hl7⟩ := owns_ents (F := Plus F w.heap.size) O9 (fun b h9 => .inr (by have h8 := Option.some.inj (show some g1 = some b from h9); omega))
  exact ⟨_, _, _, by rw [← h7]; rfl, hl7, b9⟩
end Go.Proofs.Ytljobnfilnbefaa.Ents
