/- Texts that belong together, part 38. -/
import Derived.Test.YtnmhnjjehglcfaaGreatPack37

/- The walks of the program's alone and flushes. -/
namespace Go.Proofs.YtnmhnjjehglcfaaGreat.SrchM
open LinMath HisMath ModMath CmdMath
/-- the events of a block while their blocks are turned into 0 -/
def alnL (X : List Ev) (j : Nat) : List Ev := (X.take j).map (blkEv 0) ++ X.drop j
theorem aln_at {X : List Ev} {j : Nat} {e : Ev} (h : X[j]? = some e) : (alnL X j)[j]? = some e := by
  unfold alnL
  have hj := (List.getElem?_eq_some_iff.1 h).1
  rw [List.getElem?_append_right (by simp; omega), List.length_map, List.length_take, Nat.min_eq_left (by omega), Nat.sub_self, List.getElem?_drop, Nat.add_zero]
  exact h
theorem aln_set {X : List Ev} {j : Nat} {e : Ev} (h : X[j]? = some e) : (alnL X j).set j (blkEv 0 e) = alnL X (j + 1) := by
  unfold alnL
  have hj := (List.getElem?_eq_some_iff.1 h).1
  rw [List.set_append_right _ _ (by simp; omega), List.length_map, List.length_take, Nat.min_eq_left (by omega), Nat.sub_self, take_snoc h, List.map_append, List.append_assoc]
  congr 1
  rw [← List.getElem_cons_drop hj, List.set_cons_zero]
  rfl
theorem aln_zero (X : List Ev) : alnL X 0 = X := by simp [alnL]
theorem aln_all {X : List Ev} {n : Nat} (h : X.length ≤ n) : alnL X n = X.map (blkEv 0) := by
  unfold alnL
  rw [List.take_of_length_le h, List.drop_of_length_le h, List.append_nil]
/-- the flushes that were answered with OK -/
def flB (x : Ev) : Bool := mustP x && decide (x.kind = 4)
theorem fl_next {O : List Ev} {j : Nat} {e : Ev} (h : O[j]? = some e) : (flB e = true → ((O.take (j + 1)).filter flB).map (·.serial) = ((O.take j).filter flB).map (·.serial) ++ [e.serial]) ∧ (flB e = false → ((O.take (j + 1)).filter flB).map (·.serial) = ((O.take j).filter flB).map (·.serial)) := by
  rw [take_snoc h, List.filter_append, List.map_append]
  constructor
  · intro hf; simp [hf]
  · intro hf; simp [hf]
end Go.Proofs.YtnmhnjjehglcfaaGreat.SrchM
namespace Go.Proofs.YtnmhnjjehglcfaaGreat.Ents
open Go.RowKit Plan HisMath LinMath ModMath CmdMath Rws Env LayMath SrchM
set_option maxHeartbeats 8000000 in
set_option maxRecDepth 20000 in
theorem alone_any (F : Nat → Prop) (L : List Ev) (a : Option Addr) (n c : Nat) (b : Int) (w : World) (hl : VList w F a n c L) (hm : n ≤ 100000) :
    Calls Tryz.prog 47 #[.slice a n c, .int .i64 b] w (VPost w (aloneE L b)) := by
  have HR := Lib.hid (hisRestrictO_any F L a n c b w hl hm)
  have hlen := hl.length
  have HAL := Lib.hid (show aloneE L b = (restE L b).map (blkEv 0) from rfl)
  have hrl : (restE L b).length ≤ n := by rw [← hlen]; exact List.length_filter_le _ _
  generalize aloneE L b = AE at *
  generalize restE L b = X at *
  unfold OVPost at HR
  unfold VPost
  have K := Env.start w
  clear hl hlen
  go_enter Tryz.func47, Tryz.ntmps47
  go_upto_region 2 with (first
    | (go_at_call 79; ((with_reducible refine HR.out.mono ?_); rintro r9 w9 ⟨v9, rfl, ⟨m, ho⟩, h9⟩; replace K := (K.got h9 ho).1; clear h9 ho HR)))
  have hml := own_len vrOk K 0 rfl
  obtain ⟨oa, oc, rfl, _⟩ := K.any vrOk 0 rfl
  have HTK := Lib.hid (aln_all (X := X) (n := m) (by omega))
  have hmn : m ≤ n := by omega
  rw [← aln_zero X] at K
  go_wp2_with fail
  go_loopw [12] (fun x12 wr => ∃ j : Nat, x12 = .int .i64 (j : Int) ∧ j ≤ m ∧ Env w wr [Env.lst VR (.slice oa m oc) m (alnL X j)]) (fun x12 _ => m - (intOf x12).toNat)
  case atStart => exact ⟨0, rfl, by omega, K⟩
  case round =>
    clear K
    obtain ⟨j, rfl, hj, K⟩ := hrel
    by_cases hlt : j < m
    · have hjI : (j : Int) < (m : Int) := by omega
      obtain ⟨gg, vc, en⟩ := K.val vrOk 0 rfl (by omega)
      obtain ⟨rfl, -, rfl⟩ := Value.slice.inj en
      clear en
      obtain ⟨e, he⟩ : ∃ e, X[j]? = some e := ⟨_, List.getElem?_eq_getElem (by omega)⟩
      have hme := aln_at he
      have HS := Lib.hid (aln_set he)
      have hcp := (K.list vrOk 0 rfl).cap
      unfold maxLen at hcp
      have hjc : j ≤ oc := by omega
      obtain ⟨xr, xq, xs, xk, xb, xd, xe, xx⟩ := e
      clear he
      go_upto_region 5 with fail
      go_wp2_with (first
        | (refine wpList_plain rfl fun _ hK => K.storeF vrOk 0 (g := gg) (c := oc) rfl 3 (.tmp 19) (.const (.int .i64 0)) rfl (k := j) (f := 4) (blkEv 0 ⟨xr, xq, xs, xk, xb, xd, xe, xx⟩) hme (by decide) (u := .int .i64 0) rfl (j * 8 + 4) rfl rfl rfl (by kernel_rfl) rfl rfl ?_; intro w4 K4 _; simp only [List.set] at K4; refine hK _ _ ?_; clear K))
      rw [HS.out] at K4
      go_roundw
      case rel => exact ⟨j + 1, by go_num, by omega, K4⟩
      case measure => simp [intOf]; omega
    · obtain rfl : j = m := by omega
      have hjI : ¬ (j : Int) < (j : Int) := by omega
      rw [HTK.out, ← HAL.out] at K
      go_wp2_with fail
      go_ret
      obtain ⟨ra, rc, e9, lr⟩ := K.any vrOk 0 rfl
      obtain ⟨rfl, -, rfl⟩ := Value.slice.inj e9
      exact ⟨_, _, _, rfl, lr, K.hb⟩
/-- what flushes leaves -/
def FluPost (nb : Int) (O : List Ev) (w : World) (r : Ending) (w' : World) : Prop :=
  ∃ (fa : Option Addr) (fn fc : Nat) (l : List Int) (b : Bool), r = .returned (.tuple #[.slice fa fn fc, .bool b]) ∧ TList IR w' (fun x => w.heap.size ≤ x) fa fn fc l ∧ Below w.heap.size w w' ∧ (b = true → (∀ x ∈ O, impB nb x = false) ∧ l = (O.filter flB).map (·.serial)) ∧ (b = false → ∃ x ∈ O, impB nb x = true)
set_option maxHeartbeats 8000000 in
set_option maxRecDepth 20000 in
theorem flushes_any (F : Nat → Prop) (L : List Ev) (a : Option Addr) (n c : Nat) (nb : Int) (w : World) (hl : VList w F a n c L) (hm : n ≤ 100000) :
    Calls Tryz.prog 46 #[.int .i64 nb, .slice a n c] w (FluPost nb (opsE L n) w) := by
  have HO := Lib.hid (hisOps_any F L a n c w hl hm)
  have hol : (opsE L n).length ≤ n := by rw [← calls_map, List.length_map]; exact calls_len L n
  unfold VPost at HO
  have hb := Below.refl w.heap.size w
  generalize opsE L n = O at *
  clear hl
  go_enter Tryz.func46, Tryz.ntmps46
  go_upto_block 0 with (first
    | (go_at_call 77; ((with_reducible refine HO.out.mono ?_); rintro r9 w1 ⟨oa, m, oc, rfl, lo, h9⟩; replace hb := hb.trans h9; clear h9 HO)))
  have hml := lo.length
  have HAT := Lib.hid (fun W (h : Below w1.heap.size w1 W) i (hi : i < m) => ev_at (lo.same h) i hi)
  have HB := Lib.hid hb
  have K := (Env.start w1).nil IR
  rw [show ([] : List Int) = ((O.take 0).filter flB).map (·.serial) from rfl] at K
  clear lo hb
  go_wp2_with fail
  go_loopw [6, 12] (fun x6 x12 wr => ∃ (j k : Nat) (u : Value), x12 = .int .i64 (j : Int) ∧ j ≤ m ∧ x6 = u ∧ k ≤ j ∧ RowKit.Hid (∀ i x, i < j → O[i]? = some x → impB nb x = false) ∧ Env w1 wr [Env.lst IR u k (((O.take j).filter flB).map (·.serial))]) (fun _ x12 _ => m - (intOf x12).toNat)
  case atStart => exact ⟨0, 0, _, rfl, by omega, rfl, by omega, Lib.hid (fun i _ hi => absurd hi (Nat.not_lt_zero _)), K⟩
  case round =>
    clear K
    obtain ⟨j, k, u, rfl, hj, rfl, hk, hall, K⟩ := hrel
    by_cases hlt : j < m
    · obtain ⟨x, e, rfl, he, c0, c1, c2, c3, c4, c5, c6, c7⟩ := HAT.out _ K.hb j hlt
      have hjI : (j : Int) < (m : Int) := by omega
      have HE := Lib.hid he
      have HQ := Lib.hid (fl_next he)
      have HI := Lib.hid (fun W => isImpossible_any e nb W)
      obtain ⟨xr, xq, xs, xk, xb, xd, xe, xx⟩ := e
      simp only at c0 c1 c2 c3 c4 c5 c6 c7 HQ
      clear he
      go_upto_region 5 with fail
      replace K := K.al (.cells #[.bool xr, .int .i64 xq, .int .i64 xs, .int .i64 xk, .int .i64 xb, .string xd, .int .i64 xe, .string xx] 55)
      obtain ⟨gx, hg⟩ : ∃ gx, wr.heap.size = gx := ⟨_, rfl⟩
      rw [hg] at K
      simp only [hg]
      generalize wr.alloc (.cells #[.bool xr, .int .i64 xq, .int .i64 xs, .int .i64 xk, .int .i64 xb, .string xd, .int .i64 xe, .string xx] 55) = w3 at *
      clear c0 c1 c2 c3 c4 c5 c6 c7 hg
      obtain ⟨c0, c1, c2, c3, c4, c5, c6, c7⟩ := ev_cells (K.get 0 rfl)
      cases hi : impB nb ⟨xr, xq, xs, xk, xb, xd, xe, xx⟩ with
      | true =>
        rw [hi] at HI
        have HX := Lib.hid (show ∃ x ∈ O, impB nb x = true from ⟨_, List.mem_of_getElem? HE.out, hi⟩)
        clear hi
        go_wp2_with (first
          | ((with_reducible refine Plan.load_lit 55 (.tmp 8) gx ?_ (K.get 0 rfl) Tryz.underlying55 ?_ ?_ ?_); (· rfl); (· rfl); (· exact ev_info); simp only [Act.put, List.setIfInBounds_toArray, List.set_cons_zero, List.set_cons_succ])
          | (go_at_call 78; ((with_reducible refine (HI.out _).mono ?_); rintro r9 w5 ⟨rfl, h9⟩; replace K := K.on h9; clear h9 HI; clear c0 c1 c2 c3 c4 c5 c6 c7; obtain ⟨c0, c1, c2, c3, c4, c5, c6, c7⟩ := ev_cells (K.get 0 rfl))))
        go_ret2
        exact ⟨none, 0, 0, [], false, rfl, TList.nil _ _, HB.out.trans (K.hb.mono HB.out.size), fun h => (by cases h), fun _ => HX.out⟩
      | false =>
        rw [hi] at HI
        have HM : RowKit.Hid (∀ i x, i < j + 1 → O[i]? = some x → impB nb x = false) := Lib.hid (fun i x h8 hx => by
          rcases Nat.lt_or_ge i j with h9 | h9
          · exact hall.out i x h9 hx
          · obtain rfl : i = j := by omega
            rw [HE.out] at hx
            cases hx
            exact hi)
        clear hi
        cases xr with
        | false =>
          have HN := Lib.hid (HQ.out.2 rfl)
          go_wp2_with (first
            | ((with_reducible refine Plan.load_lit 55 (.tmp 8) gx ?_ (K.get 0 rfl) Tryz.underlying55 ?_ ?_ ?_); (· rfl); (· rfl); (· exact ev_info); simp only [Act.put, List.setIfInBounds_toArray, List.set_cons_zero, List.set_cons_succ])
            | (go_at_call 78; ((with_reducible refine (HI.out _).mono ?_); rintro r9 w5 ⟨rfl, h9⟩; replace K := K.on h9; clear h9 HI; clear c0 c1 c2 c3 c4 c5 c6 c7; obtain ⟨c0, c1, c2, c3, c4, c5, c6, c7⟩ := ev_cells (K.get 0 rfl))))
          replace K := K.tail
          rw [← HN.out] at K
          go_roundw
          case rel => exact ⟨j + 1, k, _, by go_num, by omega, rfl, by omega, HM, K⟩
          case measure => simp [intOf]; omega
        | true =>
          by_cases hz : xe = 0
          · subst hz
            by_cases hk4 : xk = 4
            · subst hk4
              have HN := Lib.hid (HQ.out.1 rfl)
              go_upto_region 8 with (first
                | ((with_reducible refine Plan.load_lit 55 (.tmp 8) gx ?_ (K.get 0 rfl) Tryz.underlying55 ?_ ?_ ?_); (· rfl); (· rfl); (· exact ev_info); simp only [Act.put, List.setIfInBounds_toArray, List.set_cons_zero, List.set_cons_succ])
                | (go_at_call 78; ((with_reducible refine (HI.out _).mono ?_); rintro r9 w5 ⟨rfl, h9⟩; replace K := K.on h9; clear h9 HI; clear c0 c1 c2 c3 c4 c5 c6 c7; obtain ⟨c0, c1, c2, c3, c4, c5, c6, c7⟩ := ev_cells (K.get 0 rfl))))
              have KB := K.al (.cells (IR.c xs).toArray IR.et)
              go_wp2_with (first
                | (refine KB.apps_one irOk rfl (.tmp 33) (.tmp 36) rfl 2 0 rfl rfl (e := xs) rfl rfl (by omega) ?_; intro g3 c3' w4 K8 _; simp only [List.set] at K8; simp only [Act.put, List.setIfInBounds_toArray, List.set_cons_zero, List.set_cons_succ]; clear KB K))
              have K9 := K8.tail.tail
              rw [← HN.out] at K9
              go_roundw
              case rel => exact ⟨j + 1, k + 1, _, by go_num, by omega, rfl, by omega, HM, K9⟩
              case measure => simp [intOf]; omega
            · have HN := Lib.hid (HQ.out.2 (by simp [flB, hk4]))
              have hkd : (xk == 4) = false := by simp [hk4]
              go_wp2_with (first
                | ((with_reducible refine Plan.load_lit 55 (.tmp 8) gx ?_ (K.get 0 rfl) Tryz.underlying55 ?_ ?_ ?_); (· rfl); (· rfl); (· exact ev_info); simp only [Act.put, List.setIfInBounds_toArray, List.set_cons_zero, List.set_cons_succ])
                | (go_at_call 78; ((with_reducible refine (HI.out _).mono ?_); rintro r9 w5 ⟨rfl, h9⟩; replace K := K.on h9; clear h9 HI; clear c0 c1 c2 c3 c4 c5 c6 c7; obtain ⟨c0, c1, c2, c3, c4, c5, c6, c7⟩ := ev_cells (K.get 0 rfl))))
              replace K := K.tail
              rw [← HN.out] at K
              go_roundw
              case rel => exact ⟨j + 1, k, _, by go_num, by omega, rfl, by omega, HM, K⟩
              case measure => simp [intOf]; omega
          · have HN := Lib.hid (HQ.out.2 (by simp [flB, mustP, hz]))
            have hzd : (xe == 0) = false := by simp [hz]
            go_wp2_with (first
              | ((with_reducible refine Plan.load_lit 55 (.tmp 8) gx ?_ (K.get 0 rfl) Tryz.underlying55 ?_ ?_ ?_); (· rfl); (· rfl); (· exact ev_info); simp only [Act.put, List.setIfInBounds_toArray, List.set_cons_zero, List.set_cons_succ])
              | (go_at_call 78; ((with_reducible refine (HI.out _).mono ?_); rintro r9 w5 ⟨rfl, h9⟩; replace K := K.on h9; clear h9 HI; clear c0 c1 c2 c3 c4 c5 c6 c7; obtain ⟨c0, c1, c2, c3, c4, c5, c6, c7⟩ := ev_cells (K.get 0 rfl))))
            replace K := K.tail
            rw [← HN.out] at K
            go_roundw
            case rel => exact ⟨j + 1, k, _, by go_num, by omega, rfl, by omega, HM, K⟩
            case measure => simp [intOf]; omega
    · obtain rfl : j = m := by omega
      have hjI : ¬ (j : Int) < (j : Int) := by omega
      have HTK := Lib.hid (show O.take j = O from List.take_of_length_le (by omega))
      have HAL := Lib.hid (show ∀ x ∈ O, impB nb x = false from fun x hx => by
        obtain ⟨i, hi⟩ := List.mem_iff_getElem?.1 hx
        exact hall.out i x (by have := (List.getElem?_eq_some_iff.1 hi).1; omega) hi)
      rw [HTK.out] at K
      clear HAT
      go_wp2_with fail
      go_ret2
      obtain ⟨ra, rc, rfl, lr⟩ := K.any irOk 0 rfl
      exact ⟨_, _, _, _, true, rfl, lr.mono (fun b _ h => Nat.le_trans HB.out.size h), HB.out.trans (K.hb.mono HB.out.size), fun _ => ⟨HAL.out, rfl⟩, fun h => by cases h⟩
end Go.Proofs.YtnmhnjjehglcfaaGreat.Ents

/- The program's merge: rows joined by taking the head that was invoked first; what it makes of linearizations of the parts. Plain mathematics. -/
namespace Go.Proofs.YtnmhnjjehglcfaaGreat.SrchM
open LinMath HisMath ModMath CmdMath Ents
section
variable {α : Type}
/-- rows joined -/
inductive Mrg (i : α → Int) : List (List α) → List α → Prop
  | done {R : List (List α)} : (∀ (k : Nat) r, R[k]? = some r → r = []) → Mrg i R []
  | step {R : List (List α)} {k : Nat} {h : α} {tl o : List α} : R[k]? = some (h :: tl) → (∀ (k' : Nat) h' tl', R[k']? = some (h' :: tl') → i h ≤ i h') → Mrg i (R.set k tl) o → Mrg i R (h :: o)
theorem set_tl {R : List (List α)} {k : Nat} {h : α} {tl : List α} (hk : R[k]? = some (h :: tl)) {k' : Nat} {r : List α} (hr : (R.set k tl)[k']? = some r) : ∃ r', R[k']? = some r' ∧ ∀ x ∈ r, x ∈ r' := by
  have hkl := (List.getElem?_eq_some_iff.1 hk).1
  rw [List.getElem?_set] at hr
  split at hr
  · rename_i e
    subst e
    obtain rfl := Option.some.inj hr
    exact ⟨_, hk, fun x hx => List.mem_cons_of_mem _ hx⟩
  · exact ⟨_, hr, fun x hx => hx⟩
theorem mrg_congr {i j : α → Int} {R : List (List α)} {o : List α} (H : Mrg i R o) : (∀ (k : Nat) r, R[k]? = some r → ∀ x ∈ r, i x = j x) → Mrg j R o := by
  induction H with
  | done h => intro _; exact .done h
  | @step R k h tl o hk hm _ ih =>
    intro hij
    refine .step hk (fun k' h' tl' hk' => ?_) (ih fun k' r hr x hx => ?_)
    · rw [← hij _ _ hk h (by simp), ← hij _ _ hk' h' (by simp)]
      exact hm _ _ _ hk'
    · obtain ⟨r', hr', hs⟩ := set_tl hk hr
      exact hij _ _ hr' x (hs x hx)
theorem mrg_map {β : Type} (g : α → β) {i : β → Int} {R' : List (List β)} {o' : List β} (H : Mrg i R' o') : ∀ (R : List (List α)), R' = R.map (fun r => r.map g) → ∃ o, o' = o.map g ∧ Mrg (fun x => i (g x)) R o := by
  induction H with
  | done h =>
    intro R hR
    subst hR
    refine ⟨[], rfl, .done fun k r hr => ?_⟩
    have := h k (r.map g) (by rw [List.getElem?_map, hr]; rfl)
    exact List.map_eq_nil_iff.1 this
  | @step R' k h tl o hk hm _ ih =>
    intro R hR
    subst hR
    rw [List.getElem?_map] at hk
    cases hq : R[k]? with
    | none => rw [hq] at hk; cases hk
    | some r =>
      rw [hq] at hk
      have hk2 := Option.some.inj hk
      cases r with
      | nil => cases hk2
      | cons a t =>
        obtain ⟨rfl, rfl⟩ := List.cons.inj (show g a :: t.map g = h :: tl from hk2)
        obtain ⟨o2, rfl, h2⟩ := ih (R.set k t) (by rw [List.map_set])
        refine ⟨a :: o2, rfl, .step hq (fun k' h' tl' hk' => ?_) h2⟩
        exact hm k' (g h') (tl'.map g) (by rw [List.getElem?_map, hk']; rfl)
/-- what joined rows are -/
theorem mrg_is {i : α → Int} {bf : α → α → Prop} (hT : ∀ z h h', bf z h → ¬ bf z h' → i h' < i h) (hirr : ∀ z, ¬ bf z z) (c : α → Nat) {R : List (List α)} {o : List α} (H : Mrg i R o) :
    (∀ (k : Nat) r, R[k]? = some r → ∀ x ∈ r, c x = k) → (∀ (k : Nat) r, R[k]? = some r → r.Pairwise (fun t s => ¬ bf s t)) →
      (∀ (k : Nat) r, R[k]? = some r → o.filter (fun x => decide (c x = k)) = r) ∧ (∀ x ∈ o, c x < R.length) ∧ o.Pairwise (fun t s => ¬ bf s t) := by
  induction H with
  | done h =>
    intro _ _
    exact ⟨fun k r hr => by rw [h k r hr]; rfl, by simp, .nil⟩
  | @step R k h tl o hk hm _ ih =>
    intro hc hp
    have hkl := (List.getElem?_eq_some_iff.1 hk).1
    obtain ⟨h1, h2, h3⟩ := ih (fun k' r hr x hx => by
      obtain ⟨r', hr', hs⟩ := set_tl hk hr
      exact hc _ _ hr' x (hs x hx)) (fun k' r hr => by
      rw [List.getElem?_set] at hr
      split at hr
      · rename_i e
        subst e
        obtain rfl := Option.some.inj hr
        exact (List.pairwise_cons.1 (hp _ _ hk)).2
      · exact hp _ _ hr)
    rw [List.length_set] at h2
    have hch := hc _ _ hk h (by simp)
    have hset : (R.set k tl)[k]? = some tl := by rw [List.getElem?_set_self hkl]
    refine ⟨fun d r hr => ?_, fun x hx => ?_, List.pairwise_cons.2 ⟨fun s hs => ?_, h3⟩⟩
    · by_cases hd : k = d
      · subst hd
        rw [hk] at hr
        obtain rfl := Option.some.inj hr
        rw [List.filter_cons_of_pos (by simp [hch]), h1 _ _ hset]
      · rw [List.filter_cons_of_neg (by simp [hch, hd])]
        exact h1 d r (by rw [List.getElem?_set_ne hd]; exact hr)
    · rcases List.mem_cons.1 hx with rfl | hx
      · omega
      · exact h2 x hx
    · have hcs := h2 s hs
      obtain ⟨rs, hrs⟩ : ∃ rs, R[c s]? = some rs := ⟨_, List.getElem?_eq_getElem hcs⟩
      by_cases hd : k = c s
      · rw [← hd, hk] at hrs
        have hm2 : s ∈ tl := by
          rw [← h1 k tl hset]
          exact List.mem_filter.2 ⟨hs, by simp [hd]⟩
        exact (List.pairwise_cons.1 (hp _ _ hk)).1 s hm2
      · have hm2 : s ∈ rs := by
          rw [← h1 (c s) rs (by rw [List.getElem?_set_ne hd]; exact hrs)]
          exact List.mem_filter.2 ⟨hs, by simp⟩
        intro hbs
        cases rs with
        | nil => cases hm2
        | cons h' t' =>
          have hle := hm _ _ _ hrs
          have hnb : ¬ bf s h' := by
            rcases List.mem_cons.1 hm2 with rfl | hm3
            · exact hirr s
            · exact (List.pairwise_cons.1 (hp _ _ hrs)).1 s hm3
          have := hT s h h' hbs hnb
          omega
end
/-- a merged row is a linearization of the whole -/
theorem whole_of {B : List ByteArray} {L : List Ev} (hR : Right L) (hz : ∀ y ∈ opsE L L.length, mustP y = true → errM B (cmdOf y) = 0) (ys : Nat → List Ev) (hys : ∀ b : Nat, b < B.length → LinX B (restE L (b : Int)) (ys b)) (hfl : ys B.length = (opsE L L.length).filter flB) {o : List Ev} {R : List (List Ev)} (hRl : R.length = B.length + 1) (σ : Nat → Nat) (hσ : ∀ b, b < B.length + 1 → R[σ b]? = some (ys b)) (hσ2 : ∀ k, k < B.length + 1 → ∃ b, b < B.length + 1 ∧ σ b = k) (hσ3 : ∀ b b', b < B.length + 1 → b' < B.length + 1 → σ b = σ b' → b = b') (hM : Mrg (fun x : Ev => invI L x.serial) R o) : LinX B L o := by

  have hsub : ∀ b : Nat, opsE (restE L (b : Int)) (restE L (b : Int)).length = (opsE L L.length).filter (restB (b : Int)) := fun b => by
    unfold restE; exact ops_part hR (rest_byCmd (b : Int))
  let fl : Ev → Bool := flB
  let c : Ev → Nat := fun x => if x.kind = 4 then B.length else x.block.toNat
  have hin : ∀ b, b < B.length → ∀ x ∈ ys b, x ∈ opsE L L.length ∧ restB (b : Int) x = true := fun b hb x hx => by
    have := (hys b hb).mem x hx
    rw [hsub] at this
    exact List.mem_filter.1 this
  have hcl : ∀ b, b < B.length + 1 → ∀ x ∈ ys b, c x = b := fun b hb x hx => by
    by_cases h1 : b < B.length
    · obtain ⟨k1, k2⟩ := rest_kind (hin b h1 x hx).2
      simp only [c, if_neg (show ¬ x.kind = 4 by omega)]
      omega
    · obtain rfl : b = B.length := by omega
      rw [hfl] at hx
      have := (List.mem_filter.1 hx).2
      simp only [flB, Bool.and_eq_true, decide_eq_true_eq] at this
      simp only [c, if_pos this.2]
  have hop : ∀ b, b < B.length + 1 → ∀ x ∈ ys b, x ∈ opsE L L.length := fun b hb x hx => by
    by_cases h1 : b < B.length
    · exact (hin b h1 x hx).1
    · obtain rfl : b = B.length := by omega
      rw [hfl] at hx
      exact (List.mem_filter.1 hx).1
  have hord : ∀ b, b < B.length + 1 → (ys b).Pairwise (fun t s => ¬ beforeB L s.serial t.serial = true) := fun b hb => by
    by_cases h1 : b < B.length
    · refine ((hys b h1).ord).imp_of_mem fun {t s} ht hs hts => ?_
      obtain ⟨a1, a2⟩ := hin b h1 t ht
      obtain ⟨b1, b2⟩ := hin b h1 s hs
      unfold restE at hts
      rw [before_part hR (rest_byCmd (b : Int)) b1 a1 b2 a2] at hts
      rw [hts]; decide
    · obtain rfl : b = B.length := by omega
      rw [hfl]
      refine ((ops_ord hR).sublist List.filter_sublist).imp fun {t s} hts => ?_
      rw [hts]; decide
  have hG := mrg_is (bf := fun s t => beforeB L s.serial t.serial = true) (fun z h h' hz1 hz2 => by
      simp only [beforeB, Bool.and_eq_true, decide_eq_true_eq] at hz1 hz2
      show invI L h'.serial < invI L h.serial
      rcases Int.lt_or_le (invI L h'.serial) 0 with h9 | h9
      · omega
      · have : ¬ retI L z.serial < invI L h'.serial := fun h8 => hz2 ⟨⟨hz1.1.1, h9⟩, h8⟩
        omega) (fun z => by rw [before_irr hR]; decide) (fun x => σ (c x)) hM (fun k r hr x hx => by
      have hk := (List.getElem?_eq_some_iff.1 hr).1
      obtain ⟨b, hb, rfl⟩ := hσ2 k (by omega)
      rw [hσ b hb] at hr
      obtain rfl := Option.some.inj hr
      show σ (c x) = σ b
      rw [hcl b hb x hx]) (fun k r hr => by
      have hk := (List.getElem?_eq_some_iff.1 hr).1
      obtain ⟨b, hb, rfl⟩ := hσ2 k (by omega)
      rw [hσ b hb] at hr
      obtain rfl := Option.some.inj hr
      exact hord b hb)
  have hback0 : ∀ x ∈ o, x ∈ ys (c x) ∧ c x < B.length + 1 := fun x hx => by
    have hk : σ (c x) < R.length := hG.2.1 x hx
    obtain ⟨b, hb, hbk⟩ := hσ2 (σ (c x)) (by omega)
    have hm : x ∈ ys b := by
      rw [← hG.1 (σ b) (ys b) (hσ b hb)]
      exact List.mem_filter.2 ⟨hx, by simp only [decide_eq_true_eq]; exact hbk.symm⟩
    have := hcl b hb x hm
    rw [this]; exact ⟨hm, hb⟩
  have h2 : ∀ x ∈ o, c x < B.length + 1 := fun x hx => (hback0 x hx).2
  have h3 := hG.2.2
  have h1 : ∀ b, b < B.length + 1 → o.filter (fun x => decide (c x = b)) = ys b := fun b hb => by
    rw [← hG.1 (σ b) (ys b) (hσ b hb)]
    apply List.filter_congr
    intro x hx
    apply decide_eq_decide.2
    exact ⟨fun h => by rw [h], fun h => hσ3 _ _ (h2 x hx) hb h⟩
  have hback : ∀ x ∈ o, x ∈ ys (c x) := fun x hx => by
    rw [← h1 (c x) (h2 x hx)]
    exact List.mem_filter.2 ⟨hx, by simp⟩
  have hmem : ∀ x ∈ o, x ∈ opsE L L.length := fun x hx => hop _ (h2 x hx) x (hback x hx)
  refine ⟨hmem, ?_, fun x hx => ?_, fun y hy hmu => ?_, h3.imp fun {t s} hts => by simpa using hts, ?_⟩
  · rw [List.pairwise_iff_forall_sublist]
    intro a b hab hs
    have ha : a ∈ o := hab.subset (by simp)
    have hb : b ∈ o := hab.subset (by simp)
    obtain rfl := ops_one hR (hmem a ha) (hmem b hb) hs
    have h9 := hab.filter (fun x => decide (c x = c a))
    rw [h1 (c a) (h2 a ha)] at h9
    simp only [decide_true, List.filter_cons_of_pos, List.filter_nil] at h9
    have hnd : (ys (c a)).Pairwise (fun x y => x.serial ≠ y.serial) := by
      by_cases hb : c a < B.length
      · exact (hys _ hb).nd
      · have : c a = B.length := by have := h2 a ha; omega
        rw [this, hfl]
        exact (ops_nd hR).sublist List.filter_sublist
    exact List.pairwise_iff_forall_sublist.1 hnd h9 rfl
  · have hx2 := hback x hx
    by_cases hb : c x < B.length
    · exact (hys _ hb).skip x hx2
    · have : c x = B.length := by have := h2 x hx; omega
      rw [this, hfl] at hx2
      have := (List.mem_filter.1 hx2).2
      simp only [flB, mustP, Bool.and_eq_true, decide_eq_true_eq] at this
      simp [skipP, this.1.2]
  · have he := check_zero (hz y hy hmu)
    have h9 : y ∈ ys (c y) ∧ c y < B.length + 1 := by
      by_cases hk : y.kind = 4
      · have hcy : c y = B.length := by simp only [c, if_pos hk]
        rw [hcy, hfl]
        exact ⟨List.mem_filter.2 ⟨hy, by simp [flB, hmu, hk]⟩, Nat.lt_succ_self _⟩
      · have hbl : 0 ≤ y.block ∧ y.block < (B.length : Int) := he.2.2 hk
        have hcy : c y = y.block.toNat := by simp only [c, if_neg hk]
        have hlt : c y < B.length := by omega
        refine ⟨(hys _ hlt).must y ?_ hmu, by omega⟩
        rw [hsub]
        refine List.mem_filter.2 ⟨hy, ?_⟩
        have hk2 : 1 ≤ y.kind ∧ y.kind ≤ 4 := he.1
        have hb2 : y.block = ((c y : Nat) : Int) := by omega
        have hk3 : y.kind = 1 ∨ y.kind = 2 ∨ y.kind = 3 := by omega
        simp only [restB, Bool.and_eq_true, Bool.or_eq_true, decide_eq_true_eq]
        exact ⟨hb2, by rcases hk3 with h | h | h <;> simp [h]⟩
    rw [← h1 (c y) h9.2] at h9
    exact (List.mem_filter.1 h9.1).1
  · refine run_all (n := B.length) (fun x => x.kind = 4 ∧ ∀ C : List ByteArray, C.length = B.length → fitR C x) (fun x h => h) c o B (fun _ => B) rfl (fun b hb => ⟨rfl, rfl, ?_⟩) (fun x hx => ?_)
    · rw [h1 b (by omega)]
      exact (hys b hb).run
    · have hx2 := hback x hx
      by_cases hb : c x < B.length
      · obtain ⟨k1, k2⟩ := rest_kind (hin _ hb x hx2).2
        exact .inl ⟨hb, k1, by omega⟩
      · have hcx : c x = B.length := by have := h2 x hx; omega
        rw [hcx, hfl] at hx2
        have h9 := List.mem_filter.1 hx2
        have h8 := h9.2
        simp only [flB, Bool.and_eq_true, decide_eq_true_eq] at h8
        refine .inr ⟨hcx, h8.2, fun C hC => fit_flush hR h9.1 h8.1 h8.2 ?_⟩
        have := hz x h9.1 h8.1
        unfold errM at this ⊢
        rw [hC]; exact this
/-- the parts' orders as one order -/
theorem find_lin {B : List ByteArray} {L : List Ev} (hs : sizesE B L = 0) (himp : ∀ x ∈ opsE L L.length, impB (B.length : Int) x = false) {R : List (List Int)} (hRl : R.length = B.length + 1) (h0 : R[0]? = some (((opsE L L.length).filter flB).map (·.serial)))
    (hb : ∀ (b : Nat) v, B[b]? = some v → ∃ ob, R[b + 1]? = some ob ∧ linE [v] (aloneE L (b : Int)) ob = 0) {I : Int → Int} (hI : ∀ x ∈ opsE L L.length, I x.serial = invI L x.serial) {o : List Int} (hM : Mrg I R o) : linE B L o = 0 := by
  classical
  have hR := (sizes_parts hs).1
  have hz : ∀ y ∈ opsE L L.length, mustP y = true → errM B (cmdOf y) = 0 := fun y hy hmu => by
    have h1 := himp y hy
    unfold impB at h1
    unfold mustP at hmu
    rw [hmu] at h1
    have h2 : checkC (B.length : Int) y.kind y.block y.data.size = 0 := by simpa using h1
    exact h2
  have hex : ∀ b : Nat, ∃ ys : List Ev, b < B.length → LinX B (restE L (b : Int)) ys ∧ R[b + 1]? = some (ys.map (·.serial)) := fun b => by
    by_cases hlt : b < B.length
    · obtain ⟨v, hv⟩ : ∃ v, B[b]? = some v := ⟨_, List.getElem?_eq_getElem hlt⟩
      obtain ⟨ob, h1, h2⟩ := hb b v hv
      have hRa := alone_right hR b
      obtain ⟨zs, rfl, hzs⟩ := (lin_iff [v] (right_opn hRa) ob).1 (lin_parts0 h2).2
      have hRr := right_rest hR (b : Int)
      have h3 := lin_blk (c := 0) (d := b) (D := B) (right_blk 0 hRr) (by simp) hlt (by rw [hv]; rfl) (fun x hx => by
        rw [ops_blk _ hRr] at hx
        obtain ⟨y, hy, rfl⟩ := List.mem_map.1 hx
        exact ⟨rfl, (rest_ops hR b y hy).2⟩) hzs
      rw [List.map_map] at h3
      have h4 : (restE L (b : Int)).map (blkEv (b : Int) ∘ blkEv 0) = restE L (b : Int) := by
        conv => rhs; rw [← List.map_id (restE L (b : Int))]
        refine List.map_congr_left fun x hx => ?_
        have := (rest_kind (List.mem_filter.1 hx).2).1
        show blkEv (b : Int) (blkEv 0 x) = x
        rw [← this]
        rfl
      rw [h4] at h3
      refine ⟨_, fun _ => ⟨h3, ?_⟩⟩
      rw [h1, List.map_map]
      rfl
    · exact ⟨[], fun h => absurd h hlt⟩
  obtain ⟨yf, hyf⟩ := Classical.axiomOfChoice hex
  let ys : Nat → List Ev := fun b => if b < B.length then yf b else (opsE L L.length).filter flB
  let σ : Nat → Nat := fun b => if b < B.length then b + 1 else 0
  have hys : ∀ b, b < B.length → ys b = yf b := fun b hb => by simp only [ys, if_pos hb]
  have hye : ys B.length = (opsE L L.length).filter flB := by simp only [ys, if_neg (Nat.lt_irrefl _)]
  have hse : σ B.length = 0 := by simp only [σ, if_neg (Nat.lt_irrefl _)]
  have hsb : ∀ b, b < B.length → σ b = b + 1 := fun b hb => by simp only [σ, if_pos hb]
  have hRs : ∀ b, b < B.length + 1 → R[σ b]? = some ((ys b).map (·.serial)) := fun b hb => by
    by_cases h : b < B.length
    · rw [hsb b h, hys b h]; exact (hyf b h).2
    · obtain rfl : b = B.length := by omega
      rw [hse, hye]; exact h0
  -- the rows as lists of operations
  let RE : List (List Ev) := (List.range (B.length + 1)).map fun k => ys (if k = 0 then B.length else k - 1)
  have hRE : ∀ b, b < B.length + 1 → RE[σ b]? = some (ys b) := fun b hb => by
    by_cases h : b < B.length
    · rw [hsb b h]
      simp only [RE, List.getElem?_map]
      rw [List.getElem?_range (by omega)]
      simp
    · obtain rfl : b = B.length := by omega
      rw [hse]
      simp only [RE, List.getElem?_map]
      rw [List.getElem?_range (by omega)]
      simp
  have hσ2 : ∀ k, k < B.length + 1 → ∃ b, b < B.length + 1 ∧ σ b = k := fun k hk => by
    by_cases h : k = 0
    · subst h; exact ⟨B.length, by omega, hse⟩
    · exact ⟨k - 1, by omega, by rw [hsb _ (by omega)]; omega⟩
  have hRmap : R = RE.map (fun r => r.map (·.serial)) := by
    apply List.ext_getElem?
    intro k
    by_cases hk : k < B.length + 1
    · obtain ⟨b, hb, rfl⟩ := hσ2 k hk
      rw [hRs b hb, List.getElem?_map, hRE b hb]
      rfl
    · rw [List.getElem?_eq_none (by omega), List.getElem?_eq_none (by simp [RE]; omega)]
  obtain ⟨xs, rfl, hX⟩ := mrg_map (fun x : Ev => x.serial) hM RE hRmap
  have hmem : ∀ b, b < B.length + 1 → ∀ x ∈ ys b, x ∈ opsE L L.length := fun b hb x hx => by
    by_cases h : b < B.length
    · rw [hys b h] at hx
      have h1 := (hyf b h).1.mem x hx
      unfold restE at h1
      rw [ops_part hR (rest_byCmd (b : Int))] at h1
      exact (List.mem_filter.1 h1).1
    · obtain rfl : b = B.length := by omega
      rw [hye] at hx
      exact (List.mem_filter.1 hx).1
  have hX2 := mrg_congr (j := fun x : Ev => invI L x.serial) hX fun k r hr x hx => by
    have hk := (List.getElem?_eq_some_iff.1 hr).1
    obtain ⟨b, hb, rfl⟩ := hσ2 k (by simpa [RE] using hk)
    rw [hRE b hb] at hr
    obtain rfl := Option.some.inj hr
    exact hI x (hmem b hb x hx)
  have hW := whole_of hR hz ys (fun b hb => by rw [hys b hb]; exact (hyf b hb).1) hye (by simp [RE]) σ hRE hσ2 (fun b b' hb hb' he => by
    by_cases h : b < B.length <;> by_cases h' : b' < B.length
    · rw [hsb b h, hsb b' h'] at he; omega
    · obtain rfl : b' = B.length := by omega
      rw [hsb b h, hse] at he; omega
    · obtain rfl : b = B.length := by omega
      rw [hsb b' h', hse] at he; omega
    · omega) hX2
  exact (lin_okE hs).2 ((lin_iff B (right_opn hR) _).2 ⟨xs, rfl, hW⟩)
/-- the places of invocations as numbers -/
def plcI (q : Bool) (L : List Ev) (n : Nat) (s : Int) : Int := match plcF q L n s with
  | some (.int _ k) => k
  | _ => 0
theorem plc_int (q : Bool) (L : List Ev) : ∀ (n : Nat) (s : Int), (plcF q L n s).getD (.int .i64 0) = .int .i64 (plcI q L n s) ∧ ∀ u, plcF q L n s = some u → ∃ k, u = .int .i64 k
  | 0, _ => ⟨rfl, fun _ h => by cases h⟩
  | n + 1, s => by
    have ih := plc_int q L n s
    have key : ∃ k : Int, plcF q L (n + 1) s = some (.int .i64 k) ∨ plcF q L (n + 1) s = plcF q L n s := by
      cases he : L[n]? with
      | none => exact ⟨0, .inr (by simp [plcF, he])⟩
      | some e =>
        by_cases hq : e.ret = q
        · rw [(plc_next q he).1 hq]
          by_cases hsx : s = e.serial
          · exact ⟨n, .inl (by simp [putF, hsx])⟩
          · exact ⟨0, .inr (by simp [putF, hsx])⟩
        · exact ⟨0, .inr (by rw [(plc_next q he).2 hq])⟩
    obtain ⟨k, h | h⟩ := key
    · unfold plcI
      rw [h]
      exact ⟨rfl, fun u hu => ⟨k, (Option.some.inj hu).symm⟩⟩
    · unfold plcI
      rw [h]
      refine ⟨?_, ih.2⟩
      cases hp : plcF q L n s with
      | none => rfl
      | some u => obtain ⟨k, rfl⟩ := ih.2 u hp; rfl
theorem plc_invI {L : List Ev} (hR : Right L) {x : Ev} (hx : x ∈ opsE L L.length) : plcI false L L.length x.serial = invI L x.serial := by
  unfold plcI
  rw [plc_inv hR hx]
end Go.Proofs.YtnmhnjjehglcfaaGreat.SrchM

/- The walks of the library's IndexFunc and ContainsFunc of blocks, with what tells that one is none. -/
namespace Go.Proofs.YtnmhnjjehglcfaaGreat.Ents
open Go.RowKit Plan HisMath LinMath ModMath CmdMath Rws Env LayMath SrchM
/-- no value of a block -/
def nobB (s : ByteArray) : Bool := !decide (s.size = 16)
set_option maxHeartbeats 8000000 in
set_option maxRecDepth 20000 in
theorem nobIndex_any (F : Nat → Prop) (B : List ByteArray) (a : Option Addr) (n c : Nat) (w : World) (hl : SList w F a n c B) :
    Calls Tryz.prog 70 #[.slice a n c, .func (.func 38) #[] #[]] w fun x w' => (∃ z : Int, x = .returned (.int .i64 z) ∧ decide (0 ≤ z) = B.any nobB) ∧ Below w.heap.size w w' := by
  have hlen := hl.length
  have hcp := hl.cap
  unfold maxLen at hcp
  have HAT := Lib.hid (fun W (h : Below w.heap.size w W) i (hi : i < n) => str_at (hl.same h) i hi)
  have HK := Lib.hid (fun s W => isNoBlock_any s W)
  have HYES := Lib.hid (fun (j : Nat) (s : ByteArray) (h1 : B[j]? = some s) (h2 : nobB s = true) => List.any_eq_true.2 ⟨s, List.mem_of_getElem? h1, h2⟩)
  have HNO := Lib.hid (fun (h : ∀ (i : Nat) s, i < n → B[i]? = some s → nobB s = false) => (List.any_eq_false.2 fun s hs => by
    obtain ⟨i, hi⟩ := List.mem_iff_getElem?.1 hs
    rw [h i s (by rw [← hlen]; exact (List.getElem?_eq_some_iff.1 hi).1) hi]; decide : B.any nobB = false))
  clear hl hlen
  generalize B.any nobB = A at *
  go_enter Tryz.func70, Tryz.ntmps70
  go_wp2
  go_loopw [8] (fun x wr => ∃ j : Nat, x = .int .i64 (j : Int) ∧ j ≤ n ∧ RowKit.Hid (∀ (i : Nat) s, i < j → B[i]? = some s → nobB s = false) ∧ Below w.heap.size w wr) (fun x _ => n - (intOf x).toNat)
  case atStart => exact ⟨0, rfl, by omega, Lib.hid (fun i _ hi => absurd hi (Nat.not_lt_zero _)), Below.refl _ _⟩
  case round =>
    obtain ⟨j, rfl, hj, hall, hb⟩ := hrel
    by_cases hlt : j < n
    · obtain ⟨x, s, rfl, hs, c0⟩ := HAT.out wr hb j hlt
      have hk := HK.out s wr
      have hjI : (j : Int) < (n : Int) := by omega
      have HE := Lib.hid hs
      cases hq : nobB s with
      | true =>
        have HR := Lib.hid (HYES.out j _ HE.out hq)
        unfold nobB at hq
        rw [hq] at hk
        clear hq hs HE
        have hk := Lib.hid hk
        go_wp2_with (first
          | (go_at_call 38; ((with_reducible refine hk.out.mono ?_); rintro e9 w1 ⟨rfl, h1⟩)))
        go_ret
        exact ⟨⟨_, rfl, by rw [HR.out]; simp⟩, hb.trans (h1.mono hb.size)⟩
      | false =>
        have HN : RowKit.Hid (∀ (i : Nat) s, i < j + 1 → B[i]? = some s → nobB s = false) := Lib.hid (fun i x hi hx => by
          rcases Nat.lt_or_ge i j with h9 | h9
          · exact hall.out i x h9 hx
          · obtain rfl : i = j := by omega
            rw [HE.out] at hx
            cases hx
            exact hq)
        unfold nobB at hq
        rw [hq] at hk
        clear hq hs HE
        have hk := Lib.hid hk
        go_wp2_with (first
          | (go_at_call 38; ((with_reducible refine hk.out.mono ?_); rintro e9 w1 ⟨rfl, h1⟩)))
        go_roundw
        case rel => exact ⟨j + 1, by go_num, by omega, HN, hb.trans (h1.mono hb.size)⟩
        case measure => simp [intOf]; omega
    · obtain rfl : j = n := by omega
      have hjI : ¬ (j : Int) < (j : Int) := by omega
      have HR := Lib.hid (HNO.out hall.out)
      go_wp2_with fail
      go_ret
      exact ⟨⟨_, rfl, by rw [HR.out]; decide⟩, hb⟩
set_option maxHeartbeats 8000000 in
set_option maxRecDepth 20000 in
theorem nob_any (F : Nat → Prop) (B : List ByteArray) (a : Option Addr) (n c : Nat) (w : World) (hl : SList w F a n c B) :
    Calls Tryz.prog 37 #[.slice a n c, .func (.func 38) #[] #[]] w fun x w' => x = .returned (.bool (B.any nobB)) ∧ Below w.heap.size w w' := by
  have HI := Lib.hid (nobIndex_any F B a n c w hl)
  generalize B.any nobB = A at *
  go_enter Tryz.func37, Tryz.ntmps37
  go_wp2_with (first
    | (go_at_call 70; ((with_reducible refine HI.out.mono ?_); rintro e9 w1 ⟨⟨z, rfl, hz⟩, h1⟩)))
  go_ret
  rw [← hz]
  exact ⟨rfl, h1⟩
end Go.Proofs.YtnmhnjjehglcfaaGreat.Ents

/- The walk of the program's merge. -/
namespace Go.Proofs.YtnmhnjjehglcfaaGreat.Ents
open Go.RowKit Plan HisMath LinMath ModMath CmdMath Rws Env LayMath SrchM
def SLR : Row (Option Addr × Nat × Nat) := ⟨24, 78, 1, 24, .slice none 0 0, fun s => [.slice s.1 s.2.1 s.2.2]⟩
theorem slrOk : SLR.Ok := ⟨fun _ => rfl, fun e u hu => by simp only [SLR, List.mem_cons, List.not_mem_nil, or_false] at hu; subst hu; rfl, by decide, by kernel_rfl, rfl, Tryz.underlying78, by decide⟩
/-- lists of numbers, each in the blocks of a set -/
def RowsAt (P : Nat → Prop) (W : World) (SS : List (Option Addr × Nat × Nat)) (RR : List (List Int)) : Prop :=
  SS.length = RR.length ∧ ∀ (k : Nat) s, SS[k]? = some s → ∃ l, RR[k]? = some l ∧ TList IR W P s.1 s.2.1 s.2.2 l
theorem RowsAt.keep {w : World} {F : Nat → Prop} {W W' : World} {T T' : List Thing} {SS : List (Option Addr × Nat × Nat)} {RR : List (List Int)} (h : RowsAt (Quiet w F W T) W SS RR) (k : Keep w F W T W' T') : RowsAt (Quiet w F W' T') W' SS RR :=
  ⟨h.1, fun i s hs => by
    obtain ⟨l, h1, h2⟩ := h.2 i s hs
    exact ⟨l, h1, h2.keep k⟩⟩
theorem RowsAt.fewer {w : World} {F : Nat → Prop} {W : World} {T T' : List Thing} {SS : List (Option Addr × Nat × Nat)} {RR : List (List Int)} (h : RowsAt (Quiet w F W T) W SS RR) (hs : ∀ y ∈ T', y ∈ T) : RowsAt (Quiet w F W T') W SS RR :=
  ⟨h.1, fun i s hs' => by
    obtain ⟨l, h1, h2⟩ := h.2 i s hs'
    exact ⟨l, h1, h2.fewer hs⟩⟩
theorem RowsAt.cut {P : Nat → Prop} {W : World} {SS : List (Option Addr × Nat × Nat)} {RR : List (List Int)} (h : RowsAt P W SS RR) {k : Nat} {l0 l : List Int} (hl : RR[k]? = some l0) {s : Option Addr × Nat × Nat} (ht : TList IR W P s.1 s.2.1 s.2.2 l) : RowsAt P W (SS.set k s) (RR.set k l) := by
  refine ⟨by rw [List.length_set, List.length_set, h.1], fun i s' hi => ?_⟩
  have hkr := (List.getElem?_eq_some_iff.1 hl).1
  have hkl : k < SS.length := by rw [h.1]; exact hkr
  by_cases hik : k = i
  · subst hik
    rw [List.getElem?_set_self hkl] at hi
    obtain rfl := Option.some.inj hi
    exact ⟨l, by rw [List.getElem?_set_self hkr], ht⟩
  · rw [List.getElem?_set_ne hik] at hi
    obtain ⟨l', h1, h2⟩ := h.2 i s' hi
    exact ⟨l', by rw [List.getElem?_set_ne hik]; exact h1, h2⟩
/-- the best head so far -/
def BestP (I : Int → Int) (RR : List (List Int)) (j : Nat) (fi : Int) : Prop :=
  (fi = -1 ∧ ∀ (k : Nat) l, k < j → RR[k]? = some l → l = []) ∨ ∃ (k0 : Nat) (h : Int) (tl : List Int), fi = (k0 : Int) ∧ k0 < j ∧ RR[k0]? = some (h :: tl) ∧ ∀ (k' : Nat) h' tl', k' < j → RR[k']? = some (h' :: tl') → I h ≤ I h'
theorem best_empty {I : Int → Int} {RR : List (List Int)} {j : Nat} {fi : Int} (h : BestP I RR j fi) (hj : RR[j]? = some []) : BestP I RR (j + 1) fi := by
  rcases h with ⟨h1, h2⟩ | ⟨k0, z, tl, h1, h2, h3, h4⟩
  · refine .inl ⟨h1, fun k l hk hl => ?_⟩
    rcases Nat.lt_or_ge k j with h9 | h9
    · exact h2 k l h9 hl
    · obtain rfl : k = j := by omega
      rw [hj] at hl; exact (Option.some.inj hl).symm
  · refine .inr ⟨k0, z, tl, h1, by omega, h3, fun k' h' tl' hk hl => ?_⟩
    rcases Nat.lt_or_ge k' j with h9 | h9
    · exact h4 k' h' tl' h9 hl
    · obtain rfl : k' = j := by omega
      rw [hj] at hl; cases hl
theorem best_first {I : Int → Int} {RR : List (List Int)} {j : Nat} {z : Int} {tl : List Int} (h : BestP I RR j (-1)) (hj : RR[j]? = some (z :: tl)) : BestP I RR (j + 1) (j : Int) := by
  rcases h with ⟨h1, h2⟩ | ⟨k0, z, tl, h1, h2, h3, h4⟩
  · refine .inr ⟨j, z, tl, rfl, by omega, hj, fun k' h' tl' hk hl => ?_⟩
    rcases Nat.lt_or_ge k' j with h9 | h9
    · have := h2 k' _ h9 hl; cases this
    · obtain rfl : k' = j := by omega
      rw [hj] at hl
      cases hl
      exact Int.le_refl _
  · omega
theorem best_new {I : Int → Int} {RR : List (List Int)} {j k0 : Nat} {z z0 : Int} {tl tl0 : List Int} (h : BestP I RR j (k0 : Int)) (h0 : RR[k0]? = some (z0 :: tl0)) (hj : RR[j]? = some (z :: tl)) (hlt : I z < I z0) : BestP I RR (j + 1) (j : Int) := by
  rcases h with ⟨h1, h2⟩ | ⟨k1, z1, tl1, h1, h2, h3, h4⟩
  · omega
  · obtain rfl : k0 = k1 := by omega
    rw [h0] at h3
    cases h3
    refine .inr ⟨j, z, tl, rfl, by omega, hj, fun k' h' tl' hk hl => ?_⟩
    rcases Nat.lt_or_ge k' j with h9 | h9
    · have := h4 k' h' tl' h9 hl; omega
    · obtain rfl : k' = j := by omega
      rw [hj] at hl
      cases hl
      exact Int.le_refl _
theorem best_old {I : Int → Int} {RR : List (List Int)} {j k0 : Nat} {z z0 : Int} {tl tl0 : List Int} (h : BestP I RR j (k0 : Int)) (h0 : RR[k0]? = some (z0 :: tl0)) (hj : RR[j]? = some (z :: tl)) (hlt : ¬ I z < I z0) : BestP I RR (j + 1) (k0 : Int) := by
  rcases h with ⟨h1, h2⟩ | ⟨k1, z1, tl1, h1, h2, h3, h4⟩
  · omega
  · obtain rfl : k0 = k1 := by omega
    rw [h0] at h3
    cases h3
    refine .inr ⟨k0, z0, tl0, rfl, by omega, h0, fun k' h' tl' hk hl => ?_⟩
    rcases Nat.lt_or_ge k' j with h9 | h9
    · exact h4 k' h' tl' h9 hl
    · obtain rfl : k' = j := by omega
      rw [hj] at hl
      cases hl
      omega
def totL (RR : List (List Int)) : Nat := (RR.map List.length).sum
theorem tot_set : ∀ {RR : List (List Int)} {k : Nat} {z : Int} {tl : List Int}, RR[k]? = some (z :: tl) → totL (RR.set k tl) + 1 = totL RR
  | [], _, _, _, h => by simp at h
  | r :: RR, 0, z, tl, h => by
    obtain rfl : r = z :: tl := by simpa using h
    simp [totL]; omega
  | r :: RR, k + 1, z, tl, h => by
    have ih := tot_set (RR := RR) (k := k) (z := z) (tl := tl) (by simpa using h)
    simp only [totL, List.set_cons_succ, List.map_cons, List.sum_cons] at ih ⊢
    omega
/-- what merge leaves -/
def MrgPost (I : Int → Int) (RR : List (List Int)) (w : World) (r : Ending) (w' : World) : Prop := ∃ u k o, r = .returned u ∧ Env w w' [Env.lst IR u k o] ∧ Mrg I RR o
def slLen : Value → Nat
  | .slice _ n _ => n
  | _ => 0
set_option maxHeartbeats 8000000 in
set_option maxRecDepth 20000 in
theorem merge_any {I : Int → Int} {f : Int → Option Value} (hI : ∀ s, (f s).getD (.int .i64 0) = .int .i64 (I s)) {w W : World} {g m c mb : Nat} {SS : List (Option Addr × Nat × Nat)} {RR : List (List Int)} (K : Env w W [Env.lst SLR (Env.slv g m c) m SS, imapT mb f])
    (hrw : RowsAt (Quiet w (fun _ => False) W [Env.lst SLR (Env.slv g m c) m SS, imapT mb f]) W SS RR) (hm : m ≤ 1000) (ht : totL RR ≤ 100000) :
    Calls Tryz.prog 48 #[Env.slv g m c, .map (some mb)] W (MrgPost I RR w) := by
  have HI := Lib.hid hI
  have hss := own_len slrOk K 0 rfl
  replace hrw := hrw.keep (K.keep_nil (F := fun _ => False) IR)
  replace K := K.nil IR
  have HT0 := Lib.hid ht
  have hcp := (K.list slrOk 1 rfl).cap
  unfold maxLen at hcp
  clear hI ht
  go_enter Tryz.func48, Tryz.ntmps48
  go_upto_block 0 with fail
  go_wp2_with fail
  go_loopw [5] (fun x5 wr => ∃ (u5 : Value) (p : List Int) (SS1 : List (Option Addr × Nat × Nat)) (RR1 : List (List Int)), x5 = u5 ∧ RowKit.Hid (SS1.length = m) ∧ Env w wr [Env.lst IR u5 p.length p, Env.lst SLR (Env.slv g m c) m SS1, imapT mb f] ∧ RowsAt (Quiet w (fun _ => False) wr [Env.lst IR u5 p.length p, Env.lst SLR (Env.slv g m c) m SS1, imapT mb f]) wr SS1 RR1 ∧ RowKit.Hid (∀ o, Mrg I RR1 o → Mrg I RR (p ++ o)) ∧ RowKit.Hid (p.length + totL RR1 = totL RR)) (fun x5 _ => totL RR - slLen x5)
  case atStart => exact ⟨_, [], SS, RR, rfl, Lib.hid hss, K, hrw, Lib.hid (fun o h => h), Lib.hid (Nat.zero_add _)⟩
  case round =>
    clear K hrw hss
    obtain ⟨u5, p, SS1, RR1, rfl, hsl, K, hrw, HM, HT⟩ := hrel
    have hpt : p.length + totL RR1 ≤ 100000 := by have h1 := HT.out; have h2 := HT0.out; omega
    obtain ⟨pa, pc, e5, _⟩ := K.any irOk 0 rfl
    subst e5
    go_wp2_with fail
    go_loopw [6, 11] (fun x6 x11 wr2 => ∃ (j : Nat) (fi : Int), x11 = .int .i64 (j : Int) ∧ j ≤ m ∧ x6 = .int .i64 fi ∧ RowKit.Hid (BestP I RR1 j fi) ∧ Env w wr2 [Env.lst IR (.slice pa p.length pc) p.length p, Env.lst SLR (Env.slv g m c) m SS1, imapT mb f] ∧ RowsAt (Quiet w (fun _ => False) wr2 [Env.lst IR (.slice pa p.length pc) p.length p, Env.lst SLR (Env.slv g m c) m SS1, imapT mb f]) wr2 SS1 RR1) (fun _ x11 _ => m - (intOf x11).toNat)
    case atStart => exact ⟨0, -1, rfl, by omega, rfl, Lib.hid (.inl ⟨rfl, fun k _ hk => absurd hk (Nat.not_lt_zero _)⟩), K, hrw⟩
    case round =>
      clear K hrw
      obtain ⟨j, fi, rfl, hj, rfl, hbest, K, hrw⟩ := hrel
      by_cases hlt : j < m
      · have hjI : (j : Int) < (m : Int) := by omega
        obtain ⟨⟨sa, sn, sc⟩, hs⟩ : ∃ s, SS1[j]? = some s := ⟨_, List.getElem?_eq_getElem (by have := hsl.out; omega)⟩
        obtain ⟨l, hl, tl⟩ := hrw.2 j _ hs
        have HL := Lib.hid hl
        have c0 := (K.own1 slrOk rfl 1 rfl (k := j) hs (u := .slice sa sn sc) rfl).1
        have hsn := tl.length
        simp only at tl hsn
        cases l with
        | nil =>
          obtain rfl : sn = 0 := by simpa using hsn.symm
          clear tl hs hl hsn
          go_upto_region 6 with fail
          clear c0
          refine Plan.start (fun W => True) [(0, true), (1, true), (2, true), (3, true), (4, true), (5, true), (6, true), (7, true), (8, true), (9, true), (10, true), (11, true), (12, true), (13, true), (14, true), (15, true), (16, true), (17, true), (18, true), (19, true), (20, true), (21, true), (22, true)] (by kernel_rfl) (by kernel_rfl) (by kernel_rfl) (by kernel_rfl) trivial ?_
          replace hrw := hrw.keep (T' := [Env.lst IR (.slice pa p.length pc) p.length p, Env.lst SLR (Env.slv g m c) m SS1, imapT mb f]) K.keep_drew
          replace K := K.drew
          obtain ⟨w4, hw4⟩ := K.name
          rw [← hw4] at K hrw ⊢
          clear hw4
          simp only [List.map_cons, List.map_nil, List.getElem?_toArray, List.getElem?_cons_zero, List.getElem?_cons_succ]
          repeat (first | (refine Plan.take ?_ (by rfl) ?_ ?_; rotate_left; (· rintro w9 -; go_simp; all_goals (with_reducible rfl)); simp only [Act.put, List.setIfInBounds_toArray, List.set_cons_zero, List.set_cons_succ]) | (refine Plan.pass (by rfl) ?_; simp only [Act.put, List.setIfInBounds_toArray, List.set_cons_zero, List.set_cons_succ]))
          refine Plan.ends ?_
          go_wp2_with fail
          go_roundw
          case rel => exact ⟨j + 1, fi, by go_num, by omega, rfl, Lib.hid (best_empty hbest.out HL.out), K, hrw⟩
          case measure => simp [intOf]; omega
        | cons z lt =>
          have hsn0 : 0 < sn := by simp only [List.length_cons] at hsn; omega
          have hnI : (0 : Int) < (sn : Int) := by omega
          have hnd : decide ((0 : Int) < (sn : Int)) = true := decide_eq_true hnI
          obtain ⟨x, z', hx, hz, c1⟩ := ir_at tl 0 hsn0
          subst hx
          obtain rfl : z = z' := Option.some.inj hz
          rw [Addr.add_zero'] at c1
          clear hz hs hl tl hsn
          rcases hbest.out with ⟨rfl, -⟩ | ⟨k0, z0, lt0, rfl, hk0, hr0, -⟩
          · have HB := hbest
            go_upto_region 6 with fail
            refine Plan.start (fun W => W.cell? x = some (.int .i64 z)) [(0, true), (1, true), (2, true), (3, true), (4, true), (5, true), (6, true), (7, true), (8, true), (9, true), (10, true), (11, true), (12, true), (13, true), (14, true), (15, true), (16, true), (17, true), (18, true), (19, true), (20, true), (21, true), (22, true)] (by kernel_rfl) (by kernel_rfl) (by kernel_rfl) (by kernel_rfl) c1 ?_
            replace hrw := hrw.keep (T' := [Env.lst IR (.slice pa p.length pc) p.length p, Env.lst SLR (Env.slv g m c) m SS1, imapT mb f]) K.keep_drew
            replace K := K.drew
            obtain ⟨w4, hw4⟩ := K.name
            rw [← hw4] at K hrw ⊢
            clear hw4
            simp only [List.map_cons, List.map_nil, List.getElem?_toArray, List.getElem?_cons_zero, List.getElem?_cons_succ]
            repeat (first | (refine Plan.take ?_ (by rfl) ?_ ?_; rotate_left; (· rintro w9 u1; go_simp; all_goals (with_reducible rfl)); simp only [Act.put, List.setIfInBounds_toArray, List.set_cons_zero, List.set_cons_succ]) | (refine Plan.pass (by rfl) ?_; simp only [Act.put, List.setIfInBounds_toArray, List.set_cons_zero, List.set_cons_succ]))
            refine Plan.ends ?_
            go_wp2_with fail
            go_roundw
            case rel => exact ⟨j + 1, (j : Int), by go_num, by omega, rfl, Lib.hid (best_first HB.out HL.out), K, hrw⟩
            case measure => simp [intOf]; omega
          · have HR0 := Lib.hid hr0
            have hkm : k0 < m := by omega
            have hkI : (k0 : Int) < (m : Int) := by omega
            have hkn : ¬ (k0 : Int) < 0 := by omega
            have hkd : decide ((k0 : Int) < 0) = false := decide_eq_false hkn
            obtain ⟨⟨ra, rn, rc⟩, hs0⟩ : ∃ s, SS1[k0]? = some s := ⟨_, List.getElem?_eq_getElem (by have := hsl.out; omega)⟩
            obtain ⟨l0, hl0, tl0⟩ := hrw.2 k0 _ hs0
            rw [hr0] at hl0
            obtain rfl := Option.some.inj hl0
            have d0 := (K.own1 slrOk rfl 1 rfl (k := k0) hs0 (u := .slice ra rn rc) rfl).1
            have hrn := tl0.length
            simp only at tl0 hrn
            have hrn0 : 0 < rn := by simp only [List.length_cons] at hrn; omega
            have hrI : (0 : Int) < (rn : Int) := by omega
            obtain ⟨y, z', hy, hz, d1⟩ := ir_at tl0 0 hrn0
            subst hy
            obtain rfl : z0 = z' := Option.some.inj hz
            rw [Addr.add_zero'] at d1
            clear hz hs0 hl0 tl0 hrn hr0
            go_upto_region 6 with fail
            by_cases hcmp : I z < I z0
            · have hcd : decide (I z < I z0) = true := decide_eq_true hcmp
              refine Plan.start (fun W => W.cell? x = some (.int .i64 z) ∧ W.cell? ⟨g, k0, none⟩ = some (.slice (some y) rn rc) ∧ W.cell? y = some (.int .i64 z0) ∧ IMap W mb f) [(0, true), (1, true), (2, true), (3, true), (4, true), (5, true), (6, true), (7, true), (8, true), (9, true), (10, true), (11, true), (12, true), (13, true), (14, true), (15, true), (16, true), (17, true), (18, true), (19, true), (20, true), (21, true), (22, true)] (by kernel_rfl) (by kernel_rfl) (by kernel_rfl) (by kernel_rfl) ⟨c1, d0, d1, env_mget K.drew 2 rfl⟩ ?_
              replace hrw := hrw.keep (T' := [Env.lst IR (.slice pa p.length pc) p.length p, Env.lst SLR (Env.slv g m c) m SS1, imapT mb f]) K.keep_drew
              replace K := K.drew
              obtain ⟨w4, hw4⟩ := K.name
              rw [← hw4] at K hrw ⊢
              clear hw4
              simp only [List.map_cons, List.map_nil, List.getElem?_toArray, List.getElem?_cons_zero, List.getElem?_cons_succ]
              repeat (first | (refine Plan.take ?_ (by rfl) ?_ ?_; rotate_left; (· rintro w9 ⟨u1, u2, u3, um⟩; have ul1 := (imap_look inm_und inm_zero um z).2; rw [HI.out] at ul1; have ul2 := (imap_look inm_und inm_zero um z0).2; rw [HI.out] at ul2; go_simp; all_goals (with_reducible rfl)); simp only [Act.put, List.setIfInBounds_toArray, List.set_cons_zero, List.set_cons_succ]) | (refine Plan.pass (by rfl) ?_; simp only [Act.put, List.setIfInBounds_toArray, List.set_cons_zero, List.set_cons_succ]))
              refine Plan.ends ?_
              go_wp2_with fail
              go_roundw
              case rel => exact ⟨j + 1, (j : Int), by go_num, by omega, rfl, Lib.hid (best_new hbest.out HR0.out HL.out hcmp), K, hrw⟩
              case measure => simp [intOf]; omega
            · have hcd : decide (I z < I z0) = false := decide_eq_false hcmp
              refine Plan.start (fun W => W.cell? x = some (.int .i64 z) ∧ W.cell? ⟨g, k0, none⟩ = some (.slice (some y) rn rc) ∧ W.cell? y = some (.int .i64 z0) ∧ IMap W mb f) [(0, true), (1, true), (2, true), (3, true), (4, true), (5, true), (6, true), (7, true), (8, true), (9, true), (10, true), (11, true), (12, true), (13, true), (14, true), (15, true), (16, true), (17, true), (18, true), (19, true), (20, true), (21, true), (22, true)] (by kernel_rfl) (by kernel_rfl) (by kernel_rfl) (by kernel_rfl) ⟨c1, d0, d1, env_mget K.drew 2 rfl⟩ ?_
              replace hrw := hrw.keep (T' := [Env.lst IR (.slice pa p.length pc) p.length p, Env.lst SLR (Env.slv g m c) m SS1, imapT mb f]) K.keep_drew
              replace K := K.drew
              obtain ⟨w4, hw4⟩ := K.name
              rw [← hw4] at K hrw ⊢
              clear hw4
              simp only [List.map_cons, List.map_nil, List.getElem?_toArray, List.getElem?_cons_zero, List.getElem?_cons_succ]
              repeat (first | (refine Plan.take ?_ (by rfl) ?_ ?_; rotate_left; (· rintro w9 ⟨u1, u2, u3, um⟩; have ul1 := (imap_look inm_und inm_zero um z).2; rw [HI.out] at ul1; have ul2 := (imap_look inm_und inm_zero um z0).2; rw [HI.out] at ul2; go_simp; all_goals (with_reducible rfl)); simp only [Act.put, List.setIfInBounds_toArray, List.set_cons_zero, List.set_cons_succ]) | (refine Plan.pass (by rfl) ?_; simp only [Act.put, List.setIfInBounds_toArray, List.set_cons_zero, List.set_cons_succ]))
              refine Plan.ends ?_
              go_wp2_with fail
              go_roundw
              case rel => exact ⟨j + 1, (k0 : Int), by go_num, by omega, rfl, Lib.hid (best_old hbest.out HR0.out HL.out hcmp), K, hrw⟩
              case measure => simp [intOf]; omega
      · obtain rfl : j = m := by omega
        have hjI : ¬ (j : Int) < (j : Int) := by omega
        rcases hbest.out with ⟨rfl, hall⟩ | ⟨k0, z0, lt0, rfl, hk0, hr0, hmin⟩
        · have HA := Lib.hid (show Mrg I RR1 [] from .done fun k l hl => hall k l (by have h1 := (List.getElem?_eq_some_iff.1 hl).1; have h2 := hrw.1; have h3 := hsl.out; omega) hl)
          clear hall
          go_wp2_with fail
          go_ret
          have hM := HM.out [] HA.out
          rw [List.append_nil] at hM
          exact ⟨_, _, p, rfl, K.sub [0] rfl (by simp) (by simp), hM⟩
        · have HMIN := Lib.hid (fun (k' : Nat) h' tl' (hk' : RR1[k']? = some (h' :: tl')) => hmin k' h' tl' (by have h1 := (List.getElem?_eq_some_iff.1 hk').1; have h2 := hrw.1; have h3 := hsl.out; omega) hk')
          have HR0 := Lib.hid hr0
          have HTS := Lib.hid (tot_set hr0)
          have hkI : (k0 : Int) < (j : Int) := by omega
          have hkn : ¬ (k0 : Int) < 0 := by omega
          obtain ⟨⟨ra, rn, rc⟩, hs0⟩ : ∃ s, SS1[k0]? = some s := ⟨_, List.getElem?_eq_getElem (by have := hsl.out; omega)⟩
          obtain ⟨l0, hl0, tl0⟩ := hrw.2 k0 _ hs0
          rw [hr0] at hl0
          obtain rfl := Option.some.inj hl0
          have d0 := (K.own1 slrOk rfl 1 rfl (k := k0) hs0 (u := .slice ra rn rc) rfl).1
          have hrn := tl0.length
          have hrc := tl0.cap
          simp only at tl0 hrn hrc
          unfold maxLen at hrc
          have hrn0 : 0 < rn := by simp only [List.length_cons] at hrn; omega
          have hrI : (0 : Int) < (rn : Int) := by omega
          have hr1 : (1 : Int) ≤ (rn : Int) := by omega
          obtain ⟨y, z', hy, hz, d1⟩ := ir_at tl0 0 hrn0
          subst hy
          obtain rfl : z0 = z' := Option.some.inj hz
          rw [Addr.add_zero'] at d1
          have hct := rest_any irOk tl0 (k := 1) (by omega)
          rw [show 1 * IR.sz = 1 from rfl, show (z0 :: lt0).drop 1 = lt0 from rfl] at hct
          have HS0 := Lib.hid hs0
          have hpl : p.length ≤ 200000 := by have := HT.out; omega
          clear hz hs0 hl0 tl0 hrn hr0 hmin
          have KB := K.al (.cells (IR.c z0).toArray IR.et)
          have hka := K.keep_al (F := fun _ => False) (.cells (IR.c z0).toArray IR.et)
          have hrw3 := hrw.keep hka
          replace hct := hct.keep hka
          clear hka
          go_upto_region 12 with (first
            | (refine KB.apps_one irOk rfl (.tmp 44) (.tmp 51) rfl 1 0 rfl rfl (e := z0) rfl rfl (by omega) ?_; intro g3 c3 w4 K8 k8; simp only [List.set] at K8 k8; replace hrw3 := hrw3.keep (k8 _); replace hct := hct.keep (k8 _); simp only [Act.put, List.setIfInBounds_toArray, List.set_cons_zero, List.set_cons_succ]; clear KB K))
          have K9 := K8.sub (T' := [Env.lst IR (Env.slv g3 (p.length + 1) c3) (p.length + 1) (p ++ [z0]), Env.lst SLR (Env.slv g j c) j SS1, imapT mb f]) [1, 2, 3] rfl (by simp) (by simp)
          replace hrw3 := hrw3.fewer (T' := [Env.lst IR (Env.slv g3 (p.length + 1) c3) (p.length + 1) (p ++ [z0]), Env.lst SLR (Env.slv g j c) j SS1, imapT mb f]) (fun y hy => List.mem_cons_of_mem _ hy)
          replace hct := hct.fewer (T' := [Env.lst IR (Env.slv g3 (p.length + 1) c3) (p.length + 1) (p ++ [z0]), Env.lst SLR (Env.slv g j c) j SS1, imapT mb f]) (fun y hy => List.mem_cons_of_mem _ hy)
          clear K8 d0 d1
          have d0 := K9.own1 slrOk rfl 1 rfl (k := k0) HS0.out (u := .slice (some y) rn rc) rfl
          obtain ⟨d0, df⟩ := d0
          have hrl : rn ≤ rc := hrc.1
          have HSX := Lib.hid hct
          have HKX := Lib.hid (fun (e : Option Addr × Nat × Nat) => K9.set1 slrOk rfl 1 rfl hk0 e (u := .slice e.1 e.2.1 e.2.2) rfl)
          have HRX := Lib.hid hrw3
          clear hct hrw3 K9 hrw
          by_cases hc1 : rc = 1
          · subst hc1
            obtain rfl : rn = 1 := by omega
            go_wp2_with fail
            go_roundw
            case rel =>
              have h9 := HSX.out
              rw [if_pos rfl] at h9
              have hk := HKX.out (some y, 0, 0)
              simp only [List.set] at hk
              refine ⟨_, p ++ [z0], SS1.set k0 (some y, 0, 0), RR1.set k0 lt0, rfl, Lib.hid (by rw [List.length_set]; exact hsl.out), ?_, ?_, Lib.hid (fun o ho => ?_), Lib.hid (by have h1 := HTS.out; have h2 := HT.out; rw [List.length_append, List.length_singleton]; omega)⟩
              · rw [List.length_append, List.length_singleton]; exact hk.1
              · rw [List.length_append, List.length_singleton]; exact (RowsAt.cut HRX.out HR0.out (s := (some y, 0, 0)) h9).keep (hk.2 _)
              · rw [List.append_assoc]; exact HM.out _ (.step HR0.out HMIN.out ho)
            case measure => simp only [slLen]; have h1 := HTS.out; have h2 := HT.out; omega
          · go_wp2_with fail
            go_roundw
            case rel =>
              have h9 := HSX.out
              rw [if_neg hc1] at h9
              have hk := HKX.out (some (y.add 1), rn - 1, rc - 1)
              simp only [List.set] at hk
              refine ⟨_, p ++ [z0], SS1.set k0 (some (y.add 1), rn - 1, rc - 1), RR1.set k0 lt0, rfl, Lib.hid (by rw [List.length_set]; exact hsl.out), ?_, ?_, Lib.hid (fun o ho => ?_), Lib.hid (by have h1 := HTS.out; have h2 := HT.out; rw [List.length_append, List.length_singleton]; omega)⟩
              · rw [List.length_append, List.length_singleton]; exact hk.1
              · rw [List.length_append, List.length_singleton]; exact (RowsAt.cut HRX.out HR0.out (s := (some (y.add 1), rn - 1, rc - 1)) h9).keep (hk.2 _)
              · rw [List.append_assoc]; exact HM.out _ (.step HR0.out HMIN.out ho)
            case measure => simp only [slLen]; have h1 := HTS.out; have h2 := HT.out; omega
end Go.Proofs.YtnmhnjjehglcfaaGreat.Ents
