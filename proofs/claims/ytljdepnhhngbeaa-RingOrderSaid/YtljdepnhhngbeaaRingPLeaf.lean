
/- The walks of the program's possible, last, ascend of rings. -/
import Derived.Test.YtljdepnhhngbeaaRingSame
namespace Go.Proofs.Ytljdepnhhngbeaa.RingMath
/-- the number of the last one of some requests, -1 for none -/
def lastS (L : List Rq) : Int := match lastG L with
  | none => -1
  | some y => y.serial
def ascB (L : List Rq) : Bool := (List.range L.length).all (ascG L)
theorem last_none {L : List Rq} (h : L.length = 0) : lastS L = -1 := by
  obtain rfl := List.length_eq_zero_iff.1 h
  rfl
theorem last_some {L : List Rq} {i : Nat} {y : Rq} (h : L[i]? = some y) (hi : i + 1 = L.length) : lastS L = y.serial := by
  unfold lastS lastG
  rw [show L.length - 1 = i by omega, h]
theorem asc_bad {L : List Rq} {i : Nat} (hi : i < L.length) (h : ascG L i = false) : ascB L = false := by
  unfold ascB
  rw [List.all_eq_false]
  exact ⟨i, List.mem_range.2 hi, by simp [h]⟩
theorem asc_good {L : List Rq} (h : ∀ i, i < L.length → ascG L i = true) : ascB L = true := by
  unfold ascB
  rw [List.all_eq_true]
  exact fun i hi => h i (List.mem_range.1 hi)
/-- what the program asks of one, behind those that are right -/
theorem asc_last {L : List Rq} {j : Nat} {x : Rq} (hx : L[j]? = some x) (hb : ∀ i, i < j → ascG L i = true) : ascG L j = !decide (x.serial ≤ lastS (L.take j)) := by
  have hlt := (List.getElem?_eq_some_iff.1 hx).1
  rcases Nat.eq_zero_or_pos j with rfl | hj
  · rw [last_none (by simp)]
    by_cases h : x.serial < 0
    · rw [asc_neg hx h, decide_eq_true (by omega)]; rfl
    · rw [asc_zero hx h, decide_eq_false (by omega)]; rfl
  · obtain ⟨i, rfl⟩ : ∃ i, j = i + 1 := ⟨j - 1, by omega⟩
    have hy : L[i]? = some L[i] := List.getElem?_eq_getElem (by omega)
    have hy2 : (L.take (i + 1))[i]? = some L[i] := by rw [List.getElem?_take, if_pos (by omega)]; exact hy
    rw [last_some hy2 (by rw [List.length_take]; omega)]
    have hp := hb i (by omega)
    have hpos : 0 ≤ L[i].serial := by
      by_cases h : L[i].serial < 0
      · rw [asc_neg hy h] at hp; cases hp
      · omega
    by_cases h : x.serial < 0
    · rw [asc_neg hx h, decide_eq_true (by omega)]; rfl
    · rw [asc_next hx hy h]
      by_cases h2 : L[i].serial < x.serial
      · rw [decide_eq_true h2, decide_eq_false (by omega)]; rfl
      · rw [decide_eq_false h2, decide_eq_true (by omega)]; rfl
theorem sub_last {d : Int} {L : List Rq} {s : Int} (h : validG d L = true) (h2 : ¬ (L.length : Int) = d) : submitE d L s = if s ≤ lastS L then 17 else 0 := by
  unfold submitE
  rw [if_neg (by rw [h]; decide), if_neg h2]
  rcases Nat.eq_zero_or_pos L.length with h0 | h0
  · rw [last_none h0]
    obtain rfl := List.length_eq_zero_iff.1 h0
    by_cases hs : s < 0
    · rw [if_pos hs, if_pos (by omega)]
    · rw [if_neg hs, if_neg (by omega)]; rfl
  · have hy : L[L.length - 1]? = some L[L.length - 1] := List.getElem?_eq_getElem (by omega)
    rw [last_some hy (by omega)]
    unfold lastG
    rw [hy]
    have hpos : 0 ≤ L[L.length - 1].serial := by
      have := h
      unfold validG at this
      simp only [Bool.and_eq_true, List.all_eq_true] at this
      have hp := this.2 (L.length - 1) (List.mem_range.2 (by omega))
      by_cases h : L[L.length - 1].serial < 0
      · rw [asc_neg hy h] at hp; cases hp
      · omega
    by_cases hs : s < 0
    · rw [if_pos hs, if_pos (by omega)]
    · rw [if_neg hs]
end Go.Proofs.Ytljdepnhhngbeaa.RingMath
namespace Go.Proofs.Ytljdepnhhngbeaa.Ents
open Go.RowKit Plan RingMath Rws
theorem ringPossible_any (s : Int) (w : World) : Calls Try.prog 12 #[.int .i64 s] w fun r w' => r = .returned (.bool (decide (1 ≤ s) && decide (s ≤ 8))) ∧ w = w' := by
  by_cases h1 : 1 ≤ s
  · by_cases h2 : s ≤ 8
    · rw [decide_eq_true h1, decide_eq_true h2]
      go_enter Try.func12, Try.ntmps12
      go_wp2
      go_ret
      exact ⟨by first | rfl | (simp; omega), rfl⟩
    · rw [decide_eq_false h2, Bool.and_false]
      go_enter Try.func12, Try.ntmps12
      go_wp2
      go_ret
      exact ⟨by first | rfl | (simp; omega), rfl⟩
  · rw [decide_eq_false h1, Bool.false_and]
    go_enter Try.func12, Try.ntmps12
    go_wp2
    go_ret
    exact ⟨by first | rfl | (simp; omega), rfl⟩
set_option maxHeartbeats 4000000 in
theorem ringLast_any (F : Nat → Prop) (L : List Rq) (a : Option Addr) (n c : Nat) (w : World) (hl : GList w F a n c L) :
    Calls Try.prog 18 #[.slice a n c] w fun r w' => r = .returned (.int .i64 (lastS L)) ∧ w = w' := by
  have hlen := hl.length
  have hcp := hl.cap
  unfold maxLen at hcp
  rcases Nat.eq_zero_or_pos n with h0 | h0
  · rw [last_none (by omega)]
    have t1 : ((n : Int) == 0) = true := by simp; omega
    have t2 : (n == 0) = true := by simp; omega
    clear hl hlen
    go_enter Try.func18, Try.ntmps18
    go_wp2
    go_ret
    exact ⟨rfl, rfl⟩
  · obtain ⟨J, hJ⟩ : ∃ J, n = J + 1 := ⟨n - 1, by omega⟩
    obtain ⟨x, y, rfl, hy, hc⟩ := rq_at hl J (by omega)
    rw [last_some hy (by omega)]
    have t1 : ((n : Int) == 0) = false := by simp; omega
    have t2 : (n == 0) = false := by simp; omega
    have w1 : wrap64 ((n : Int) - 1) = (J : Int) := by unfold wrap64; omega
    have w2 : IntKind.i64.wrap ((n : Int) - 1) = (J : Int) := by rw [IntWalk.i64_in _ (by omega)]; omega
    have hJ1 : J < n := by omega
    have hJ2 : (J : Int) < (n : Int) := by omega
    clear hl hlen hJ hy
    go_enter Try.func18, Try.ntmps18
    go_wp2
    go_ret
    exact ⟨rfl, rfl⟩
set_option maxHeartbeats 8000000 in
set_option maxRecDepth 20000 in
theorem ringAscend_any (F : Nat → Prop) (L : List Rq) (a : Option Addr) (n c : Nat) (w : World) (hl : GList w F a n c L) :
    Calls Try.prog 19 #[.slice a n c] w fun r w' => r = .returned (.bool (ascB L)) ∧ Below w.heap.size w w' := by
  have hlen := hl.length
  have hcp := hl.cap
  unfold maxLen at hcp
  obtain ⟨hcp, hcm⟩ := hcp
  have HAT := Lib.hid (fun W (h : Below w.heap.size w W) i (hi : i < n) => rq_all (hl.same h) i hi)
  have HL := Lib.hid (fun W (h : Below w.heap.size w W) i (hi : i ≤ n) => ringLast_any _ (L.take i) a i c W ((hl.same h).front rqOk i hi))
  have HGOOD := Lib.hid (@asc_good L)
  have HBAD := Lib.hid (fun i (h : i < n) h2 => @asc_bad L i (by omega) h2)
  have HST := Lib.hid (fun j x hx hb => @asc_last L j x hx hb)
  generalize ascB L = R at *
  clear hl
  go_enter Try.func19, Try.ntmps19
  go_wp2_with fail
  go_loopw [7] (fun x wr => ∃ j : Nat, x = .int .i64 (j : Int) ∧ j ≤ n ∧ RowKit.Hid (∀ i, i < j → ascG L i = true) ∧ Below w.heap.size w wr) (fun x _ => n - (intOf x).toNat)
  case atStart => exact ⟨0, rfl, by omega, Lib.hid (fun i hi => absurd hi (Nat.not_lt_zero _)), Below.refl _ _⟩
  case round =>
    obtain ⟨j, rfl, hj, hall, hb⟩ := hrel
    by_cases hlt : j < n
    · obtain ⟨x, y, rfl, hy, hat⟩ := HAT.out wr hb j hlt
      have hjI : (j : Int) < (n : Int) := by omega
      have hjc : j ≤ c := by omega
      have hst := HST.out _ _ hy hall.out
      have HLj := Lib.hid (fun W h => HL.out W h j hj)
      obtain ⟨ys, yk, yb, yd⟩ := y
      try simp only at hat hst
      generalize lastS (L.take j) = z at *
      have hb2 : Below w.heap.size w (wr.alloc (rqRow ⟨ys, yk, yb, yd⟩)) := hb.alloc hb.size _
      have hrow := heap_alloc_new wr (rqRow ⟨ys, yk, yb, yd⟩)
      have hc9 : (wr.alloc (rqRow ⟨ys, yk, yb, yd⟩)).cell? ⟨wr.heap.size, 0, none⟩ = some (.int .i64 ys) := cell_of_row _ _ 0 _ _ _ hrow
      clear hy
      cases hq : decide (ys ≤ z)
      · have HN := Lib.hid (fun i (hi : i < j + 1) => (show ascG L i = true from by
          rcases Nat.lt_or_ge i j with h9 | h9
          · exact hall.out i h9
          · obtain rfl : i = j := by omega
            rw [hst, hq]; rfl))
        clear hst
        go_upto_region 4 with fail
        refine Plan.start (fun W => W.cell? ⟨wr.heap.size, 0, none⟩ = some (.int .i64 ys) ∧ Below w.heap.size w W) [(0, true), (1, true), (2, true), (3, true), (4, true), (5, false), (6, true)] (by kernel_rfl) (by kernel_rfl) (by kernel_rfl) (by kernel_rfl) ⟨hc9, hb2.drew⟩ ?_
        simp only [List.map_cons, List.map_nil, List.getElem?_toArray, List.getElem?_cons_zero, List.getElem?_cons_succ]
        repeat (first | (refine Plan.take ?_ (by rfl) ?_ ?_; rotate_left; (· rintro w9 ⟨u0, u1⟩; go_simp; (try rw [if_neg (by omega)]); all_goals (with_reducible rfl)); simp only [Act.put, List.setIfInBounds_toArray, List.set_cons_zero, List.set_cons_succ]))
        refine Plan.call (by rfl) 18 _ ?_ (HLj.out _ hb2.drew) ?_
        · go_simp
        rintro r9 w9 ⟨rfl, rfl⟩
        refine ⟨_, rfl, ⟨hc9, hb2.drew⟩, ?_⟩
        simp only [Act.put, List.setIfInBounds_toArray, List.set_cons_zero, List.set_cons_succ]
        repeat (first | (refine Plan.take ?_ (by rfl) ?_ ?_; rotate_left; (· rintro w9 ⟨u0, u1⟩; go_simp; (try rw [if_neg (by omega)]); all_goals (with_reducible rfl)); simp only [Act.put, List.setIfInBounds_toArray, List.set_cons_zero, List.set_cons_succ]))
        refine Plan.ends ?_
        have hb3 := hb2.drew
        clear hat hrow hc9 hb2
        go_wp2_with fail
        go_roundw
        case rel => exact ⟨j + 1, by go_num, by omega, HN, hb3⟩
        case measure => simp [intOf]; omega
      · have HR := Lib.hid (HBAD.out j hlt (by rw [hst, hq]; rfl))
        clear hst
        go_upto_region 4 with fail
        refine Plan.start (fun W => W.cell? ⟨wr.heap.size, 0, none⟩ = some (.int .i64 ys) ∧ Below w.heap.size w W) [(0, true), (1, true), (2, true), (3, true), (4, true), (5, false), (6, true)] (by kernel_rfl) (by kernel_rfl) (by kernel_rfl) (by kernel_rfl) ⟨hc9, hb2.drew⟩ ?_
        simp only [List.map_cons, List.map_nil, List.getElem?_toArray, List.getElem?_cons_zero, List.getElem?_cons_succ]
        repeat (first | (refine Plan.take ?_ (by rfl) ?_ ?_; rotate_left; (· rintro w9 ⟨u0, u1⟩; go_simp; (try rw [if_neg (by omega)]); all_goals (with_reducible rfl)); simp only [Act.put, List.setIfInBounds_toArray, List.set_cons_zero, List.set_cons_succ]))
        refine Plan.call (by rfl) 18 _ ?_ (HLj.out _ hb2.drew) ?_
        · go_simp
        rintro r9 w9 ⟨rfl, rfl⟩
        refine ⟨_, rfl, ⟨hc9, hb2.drew⟩, ?_⟩
        simp only [Act.put, List.setIfInBounds_toArray, List.set_cons_zero, List.set_cons_succ]
        repeat (first | (refine Plan.take ?_ (by rfl) ?_ ?_; rotate_left; (· rintro w9 ⟨u0, u1⟩; go_simp; (try rw [if_neg (by omega)]); all_goals (with_reducible rfl)); simp only [Act.put, List.setIfInBounds_toArray, List.set_cons_zero, List.set_cons_succ]))
        refine Plan.ends ?_
        have hb3 := hb2.drew
        clear hat hrow hc9 hb2
        go_wp2_with fail
        go_ret
        exact ⟨r_b HR.out.symm, hb3⟩
    · obtain rfl : j = n := by omega
      have hjI : ¬ (j : Int) < (j : Int) := by omega
      have HR := Lib.hid (HGOOD.out (fun i hi => hall.out i (by omega)))
      go_wp2_with fail
      go_ret
      exact ⟨r_b HR.out.symm, hb⟩
end Go.Proofs.Ytljdepnhhngbeaa.Ents
