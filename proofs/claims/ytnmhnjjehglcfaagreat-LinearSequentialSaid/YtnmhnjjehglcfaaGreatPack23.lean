/- Texts that belong together, part 23. -/
import Derived.Test.YtnmhnjjehglcfaaGreatPack22

/- Parts of a history for its blocks: their operations, what is before what, what a command does to one block. Plain mathematics. -/
namespace Go.Proofs.YtnmhnjjehglcfaaGreat.LinMath
open HisMath ModMath CmdMath
theorem pair_sub {α : Type} {l : List α} {x y : α} : List.Sublist [x, y] l ↔ ∃ i j : Nat, i < j ∧ l[i]? = some x ∧ l[j]? = some y := by
  constructor
  · intro h
    induction l with
    | nil => cases h
    | cons a l ih =>
      cases h with
      | cons _ h =>
        obtain ⟨i, j, h1, h2, h3⟩ := ih h
        exact ⟨i + 1, j + 1, by omega, h2, h3⟩
      | cons_cons _ h =>
        obtain ⟨j, hj⟩ := List.mem_iff_getElem?.1 (List.singleton_sublist.1 h)
        exact ⟨0, j + 1, by omega, rfl, hj⟩
  · rintro ⟨i, j, hij, hi, hj⟩
    induction l generalizing i j with
    | nil => simp at hi
    | cons a l ih =>
      cases i with
      | zero =>
        obtain rfl := Option.some.inj (show some a = some x from hi)
        obtain ⟨j, rfl⟩ : ∃ j', j = j' + 1 := ⟨j - 1, by omega⟩
        exact List.Sublist.cons_cons _ (List.singleton_sublist.2 (List.mem_of_getElem? (show l[j]? = some y from hj)))
      | succ i =>
        obtain ⟨j, rfl⟩ : ∃ j', j = j' + 1 := ⟨j - 1, by omega⟩
        exact List.Sublist.cons _ (ih i j (by omega) hi hj)
/-- what is before what, by the places of events -/
theorem before_sub {L : List Ev} (h : Right L) {s t : Int} : beforeB L s t = true ↔ ∃ x y, List.Sublist [x, y] L ∧ x.ret = true ∧ x.serial = s ∧ y.ret = false ∧ y.serial = t := by
  simp only [beforeB, Bool.and_eq_true, decide_eq_true_eq]
  constructor
  · rintro ⟨⟨h1, h2⟩, h3⟩
    obtain ⟨i, x, hi, hx, hp, _⟩ := seek_is h1
    obtain ⟨j, y, hj, hy, hq, _⟩ := seek_is h2
    obtain ⟨hxr, hxs⟩ := ret_is hp
    obtain ⟨hyr, hys⟩ := inv_is hq
    have e1 : retI L s = (i : Int) := hi
    have e2 : invI L t = (j : Int) := hj
    exact ⟨x, y, pair_sub.2 ⟨i, j, by omega, hx, hy⟩, hxr, hxs, hyr, hys⟩
  · rintro ⟨x, y, hsub, hxr, hxs, hyr, hys⟩
    obtain ⟨i, j, hij, hx, hy⟩ := pair_sub.1 hsub
    have h1 := h.inv_at (List.mem_of_getElem? hy) hyr
    rw [hys] at h1
    obtain ⟨j2, z, hj2, hz, hzp, _⟩ := seek_is h1.1
    obtain ⟨hzr, hzs⟩ := inv_is hzp
    have := h.one j2 j z y hz hy hzr hyr (by rw [hzs, hys])
    have e2 : invI L t = (j2 : Int) := hj2
    have h2 : 0 ≤ retI L s := by
      rcases Int.lt_or_le (retI L s) 0 with h9 | h9
      · exact absurd hxs (ret_neg.1 h9 x (List.mem_of_getElem? hx) hxr)
      · exact h9
    obtain ⟨i2, z2, hi2, hz2, hp2, hb2⟩ := seek_is h2
    have e1 : retI L s = (i2 : Int) := hi2
    have hle : i2 ≤ i := by
      rcases Nat.lt_or_ge i i2 with h9 | h9
      · have := hb2 i x h9 hx
        simp [retP, hxr, hxs] at this
      · exact h9
    exact ⟨⟨h2, h1.1⟩, by omega⟩
/-- the same in a part of the history -/
theorem before_part {L : List Ev} (h : Right L) {p : Ev → Bool} (hp : ∀ x y : Ev, x.kind = y.kind → x.block = y.block → p x = p y) {a b : Ev} (ha : a ∈ opsE L L.length) (hb : b ∈ opsE L L.length) (hpa : p a = true) (hpb : p b = true) : beforeB (L.filter p) a.serial b.serial = beforeB L a.serial b.serial := by
  rw [ops_right h _ (Nat.le_refl _), List.take_length] at ha hb
  obtain ⟨a0, ha0, rfl⟩ := List.mem_map.1 ha
  obtain ⟨b0, hb0, rfl⟩ := List.mem_map.1 hb
  have hcmd : ∀ e : Ev, (opOf L e).kind = e.kind ∧ (opOf L e).block = e.block := fun e => by
    unfold opOf
    split
    · exact ⟨rfl, rfl⟩
    · exact ⟨rfl, rfl⟩
  have har : a0.ret = false := by have := (List.mem_filter.1 ha0).2; cases hr : a0.ret <;> simp_all
  have hbr : b0.ret = false := by have := (List.mem_filter.1 hb0).2; cases hr : b0.ret <;> simp_all
  have hpa0 : p a0 = true := by rw [← hpa]; exact hp _ _ (hcmd a0).1.symm (hcmd a0).2.symm
  have hpb0 : p b0 = true := by rw [← hpb]; exact hp _ _ (hcmd b0).1.symm (hcmd b0).2.symm
  rw [(op_open (L := L) har).2, (op_open (L := L) hbr).2]
  have haL := (List.mem_filter.1 ha0).1
  have hbL := (List.mem_filter.1 hb0).1
  apply Bool.eq_iff_iff.2
  rw [before_sub (right_filter h hp), before_sub h]
  constructor
  · rintro ⟨x, y, hs, h1⟩
    exact ⟨x, y, hs.trans List.filter_sublist, h1⟩
  · rintro ⟨x, y, hs, hxr, hxs, hyr, hys⟩
    obtain ⟨i, j, hij, hx, hy⟩ := pair_sub.1 hs
    -- y is b0 itself; x is the return of a0
    have hyb : y = b0 := by
      obtain ⟨k, hk⟩ := List.mem_iff_getElem?.1 hbL
      have := h.one j k y b0 hy hk hyr hbr hys
      subst this
      rw [hy] at hk
      exact Option.some.inj hk
    have hxp : p x = true := by
      obtain ⟨q, z, _, hz, hzr, hzs⟩ := h.ahead i x hx hxr
      obtain ⟨k, hk⟩ := List.mem_iff_getElem?.1 haL
      have := h.one q k z a0 hz hk hzr har (by rw [hzs, hxs])
      subst this
      rw [hz] at hk
      obtain rfl := Option.some.inj hk
      have hc : x.kind = z.kind ∧ x.block = z.block := by
        have hf := right_take h (i + 1)
        rw [List.take_succ_eq_append_getElem (List.getElem?_eq_some_iff.1 hx).1, (List.getElem?_eq_some_iff.1 hx).2] at hf
        obtain ⟨hf1, hf2⟩ := right_snoc hf
        rcases hf2 with hf2 | hf2
        · rw [hf2.ret] at hxr; cases hxr
        · obtain ⟨y', hy', hr', hs', _, hk', hb', _⟩ := hf2.one
          obtain ⟨m, hm⟩ := List.mem_iff_getElem?.1 hy'
          have hml := (List.getElem?_eq_some_iff.1 hm).1
          rw [List.length_take] at hml
          rw [List.getElem?_take, if_pos (by omega)] at hm
          have := h.one m q y' z hm hz hr' hzr (by rw [hs', hzs])
          subst this
          rw [hm] at hz
          obtain rfl := Option.some.inj hz
          exact ⟨hk'.symm, hb'.symm⟩
      rw [← hpa0]
      exact hp x z hc.1 hc.2
    subst hyb
    refine ⟨x, y, ?_, hxr, hxs, hyr, hys⟩
    have := hs.filter p
    simpa [hxp, hpb0] using this
end Go.Proofs.YtnmhnjjehglcfaaGreat.LinMath

/- A history is linearizable exactly if its parts for all blocks are. Plain mathematics. -/
namespace Go.Proofs.YtnmhnjjehglcfaaGreat.LinMath
open HisMath ModMath CmdMath
/-- a choice of events by their commands -/
def byCmd (p : Ev → Bool) : Prop := ∀ x y : Ev, x.kind = y.kind → x.block = y.block → p x = p y
theorem op_cmd (L : List Ev) (e : Ev) : (opOf L e).kind = e.kind ∧ (opOf L e).block = e.block ∧ (opOf L e).data = e.data ∧ (opOf L e).serial = e.serial ∧ (opOf L e).queue = e.queue := by
  unfold opOf
  split <;> exact ⟨rfl, rfl, rfl, rfl, rfl⟩
/-- a return has the command of its invocation -/
theorem ret_cmd {L : List Ev} (h : Right L) {x y : Ev} (hx : x ∈ L) (hy : y ∈ L) (hxr : x.ret = true) (hyr : y.ret = false) (hs : x.serial = y.serial) : x.kind = y.kind ∧ x.block = y.block := by
  obtain ⟨i, hi⟩ := List.mem_iff_getElem?.1 hx
  have hf := right_take h (i + 1)
  rw [List.take_succ_eq_append_getElem (List.getElem?_eq_some_iff.1 hi).1, (List.getElem?_eq_some_iff.1 hi).2] at hf
  obtain ⟨hf1, hf2⟩ := right_snoc hf
  rcases hf2 with hf2 | hf2
  · rw [hf2.ret] at hxr; cases hxr
  · obtain ⟨y', hy', hr', hs', _, hk', hb', _⟩ := hf2.one
    obtain ⟨m, hm⟩ := List.mem_iff_getElem?.1 hy'
    have hml := (List.getElem?_eq_some_iff.1 hm).1
    rw [List.length_take] at hml
    rw [List.getElem?_take, if_pos (by omega)] at hm
    obtain ⟨j, hj⟩ := List.mem_iff_getElem?.1 hy
    have := h.one m j y' y hm hj hr' hyr (by rw [hs', hs])
    subst this
    rw [hm] at hj
    obtain rfl := Option.some.inj hj
    exact ⟨hk'.symm, hb'.symm⟩
/-- a return of a serial is the only one -/
theorem right_oneRet {L : List Ev} (h : Right L) : ∀ (i j : Nat) (x y : Ev), L[i]? = some x → L[j]? = some y → x.ret = true → y.ret = true → x.serial = y.serial → i = j := by
  have key : ∀ (i j : Nat) (x y : Ev), i < j → L[i]? = some x → L[j]? = some y → x.ret = true → y.ret = true → x.serial = y.serial → False := fun i j x y hij hx hy hxr hyr hs => by
    have hf := right_take h (j + 1)
    rw [List.take_succ_eq_append_getElem (List.getElem?_eq_some_iff.1 hy).1, (List.getElem?_eq_some_iff.1 hy).2] at hf
    obtain ⟨_, hf2⟩ := right_snoc hf
    rcases hf2 with hf2 | hf2
    · rw [hf2.ret] at hyr; cases hyr
    · exact hf2.open' x (List.mem_of_getElem? (by rw [List.getElem?_take, if_pos hij]; exact hx)) hxr hs
  intro i j x y hx hy hxr hyr hs
  rcases Nat.lt_trichotomy i j with h1 | h1 | h1
  · exact (key i j x y h1 hx hy hxr hyr hs).elim
  · exact h1
  · exact (key j i y x h1 hy hx hyr hxr hs.symm).elim
/-- the return of an operation is found in each part in which the operation is -/
theorem op_part {L : List Ev} (h : Right L) {p : Ev → Bool} (hp : byCmd p) {e : Ev} (he : e ∈ L) (hr : e.ret = false) (hpe : p e = true) : opOf (L.filter p) e = opOf L e := by
  have hR := right_filter h hp
  unfold opOf
  by_cases h1 : 0 ≤ retI L e.serial
  · obtain ⟨i, x, hi, hx, hpx, _⟩ := seek_is h1
    obtain ⟨hxr, hxs⟩ := ret_is hpx
    have hxm := List.mem_of_getElem? hx
    have hc := ret_cmd h hxm he hxr hr hxs
    have hxp : p x = true := by rw [← hpe]; exact hp x e hc.1 hc.2
    have hxf : x ∈ L.filter p := List.mem_filter.2 ⟨hxm, hxp⟩
    have h2 : 0 ≤ retI (L.filter p) e.serial := by
      rcases Int.lt_or_le (retI (L.filter p) e.serial) 0 with h9 | h9
      · exact absurd hxs (ret_neg.1 h9 x hxf hxr)
      · exact h9
    obtain ⟨j, y, hj, hy, hpy, _⟩ := seek_is h2
    obtain ⟨hyr, hys⟩ := ret_is hpy
    have hym := (List.mem_filter.1 (List.mem_of_getElem? hy)).1
    obtain ⟨k, hk⟩ := List.mem_iff_getElem?.1 hym
    have := right_oneRet h i k x y hx hk hxr hyr (by rw [hxs, hys])
    subst this
    rw [hx] at hk
    obtain rfl := Option.some.inj hk
    rw [if_pos h1, if_pos h2, show retI L e.serial = (i : Int) from hi, show retI (L.filter p) e.serial = (j : Int) from hj, Int.toNat_natCast, Int.toNat_natCast, hx, hy]
  · have h2 : ¬ 0 ≤ retI (L.filter p) e.serial := by
      intro h2
      obtain ⟨j, y, hj, hy, hpy, _⟩ := seek_is h2
      obtain ⟨hyr, hys⟩ := ret_is hpy
      have hym := (List.mem_filter.1 (List.mem_of_getElem? hy)).1
      exact absurd hys (ret_neg.1 (by omega) y hym hyr)
    rw [if_neg h1, if_neg h2]
/-- the operations of a part -/
theorem ops_part {L : List Ev} (h : Right L) {p : Ev → Bool} (hp : byCmd p) : opsE (L.filter p) (L.filter p).length = (opsE L L.length).filter p := by
  rw [ops_right (right_filter h hp) _ (Nat.le_refl _), ops_right h _ (Nat.le_refl _), List.take_length, List.take_length, List.filter_map, List.filter_filter]
  have h1 : (L.filter (fun e => !e.ret)).filter (p ∘ opOf L) = L.filter (fun e => !e.ret && p e) := by
    rw [List.filter_filter]
    apply List.filter_congr
    intro e _
    have : p (opOf L e) = p e := hp _ _ (op_cmd L e).1 (op_cmd L e).2.1
    simp [this, Bool.and_comm]
  rw [h1]
  apply List.map_congr_left
  intro e he
  have hm := List.mem_filter.1 he
  have hb : (!e.ret && p e) = true := hm.2
  rw [Bool.and_eq_true] at hb
  exact op_part h hp hm.1 (by cases hr : e.ret <;> simp_all) hb.2
/-- a command on a block sees only this block -/
theorem apply_same {B C : List ByteArray} (hl : B.length = C.length) {x : Cmd} (hk : x.kind ≠ 4) (hb : ∀ i : Nat, x.block = (i : Int) → B[i]? = C[i]?) : (applyR B x).err = (applyR C x).err ∧ (applyR B x).data = (applyR C x).data ∧ ∀ i : Nat, x.block = (i : Int) → (applyB B x)[i]? = (applyB C x)[i]? := by
  have he : errM B x = errM C x := by unfold errM; rw [hl]
  unfold applyR applyB
  rw [he]
  by_cases h0 : errM C x ≠ 0
  · simp only [if_pos h0]
    exact ⟨by first | rfl | trivial, by first | rfl | trivial, hb⟩
  · simp only [if_neg h0]
    have hz := check_zero (Classical.not_not.1 h0)
    obtain ⟨i, hi⟩ : ∃ i : Nat, x.block = (i : Int) := ⟨x.block.toNat, by have := (hz.2.2 hk).1; omega⟩
    have hbi := hb i hi
    refine ⟨by split <;> rfl, ?_, fun j hj => ?_⟩
    · by_cases h1 : x.kind = 1
      · rw [if_pos h1, if_pos h1, hi, Int.toNat_natCast, List.getD_eq_getElem?_getD, List.getD_eq_getElem?_getD, hbi]
      · rw [if_neg h1, if_neg h1]
    · have hji : j = i := by omega
      subst hji
      rw [hi, Int.toNat_natCast]
      by_cases h2 : x.kind = 2
      · rw [if_pos h2, if_pos h2, List.getElem?_set, List.getElem?_set, hl]; simp
      · rw [if_neg h2, if_neg h2]
        by_cases h3 : x.kind = 3
        · rw [if_pos h3, if_pos h3, List.getElem?_set, List.getElem?_set, hl]; simp
        · rw [if_neg h3, if_neg h3, hbi]
/-- and changes no other -/
theorem apply_other {B : List ByteArray} {x : Cmd} {i : Nat} (h : x.block ≠ (i : Int) ∨ x.kind = 4) : (applyB B x)[i]? = B[i]? := by
  unfold applyB
  by_cases h0 : errM B x ≠ 0
  · rw [if_pos h0]
  · rw [if_neg h0]
    have hz := check_zero (Classical.not_not.1 h0)
    by_cases h2 : x.kind = 2
    · rw [if_pos h2, List.getElem?_set_ne]
      intro he
      have h4 := (hz.2.2 (by omega)).1
      rcases h with h | h
      · exact h (by omega)
      · omega
    · rw [if_neg h2]
      by_cases h3 : x.kind = 3
      · rw [if_pos h3, List.getElem?_set_ne]
        intro he
        have h4 := (hz.2.2 (by omega)).1
        rcases h with h | h
        · exact h (by omega)
        · omega
      · rw [if_neg h3]
theorem rest_byCmd (b : Int) : byCmd (restB b) := fun x y h1 h2 => by simp [restB, h1, h2]
theorem rest_kind {b : Int} {x : Ev} (h : restB b x = true) : x.block = b ∧ (x.kind = 1 ∨ x.kind = 2 ∨ x.kind = 3) := by
  simp only [restB, Bool.and_eq_true, Bool.or_eq_true, decide_eq_true_eq] at h
  exact ⟨h.1, by omega⟩
/-- operations on one block from states that have the same block -/
theorem run_rel {b : Nat} : ∀ (xs : List Ev) {B C : List ByteArray}, B.length = C.length → B[b]? = C[b]? → (runW B xs).isSome = true → (runW C (xs.filter (restB (b : Int)))).isSome = true
  | [], _, _, _, _, _ => rfl
  | x :: xs, B, C, hl, hb, h => by
    rw [runW] at h
    by_cases hf : fitR B x
    · rw [if_pos hf] at h
      cases hr : restB (b : Int) x
      · rw [List.filter_cons_of_neg (by simp [hr])]
        refine run_rel xs (by rw [apply_len, hl]) ?_ h
        by_cases hk : x.kind = 1 ∨ x.kind = 2 ∨ x.kind = 3
        · have hbl : x.block ≠ (b : Int) := by
            intro hbb
            simp [restB, hbb] at hr
            omega
          rw [apply_other (x := cmdOf x) (.inl hbl), hb]
        · by_cases h4 : x.kind = 4
          · rw [apply_other (x := cmdOf x) (.inr h4), hb]
          · have : applyB B (cmdOf x) = B := by
              unfold applyB
              by_cases h0 : errM B (cmdOf x) ≠ 0
              · rw [if_pos h0]
              · have hz := check_zero (Classical.not_not.1 h0)
                have : 1 ≤ x.kind ∧ x.kind ≤ 4 := hz.1
                omega
            rw [this, hb]
      · rw [List.filter_cons_of_pos hr, runW]
        obtain ⟨hbl, hk⟩ := rest_kind hr
        have hs := apply_same hl (x := cmdOf x) (by show x.kind ≠ 4; omega) (fun i hi => by
          have : i = b := by have : x.block = (i : Int) := hi; omega
          subst this; exact hb)
        have hf2 : fitR C x := fun h9 => by
          have := hf h9
          rw [hs.1, hs.2.1] at this
          exact this
        rw [if_pos hf2]
        exact run_rel xs (by rw [apply_len, apply_len, hl]) (hs.2.2 b hbl) h
    · rw [if_neg hf] at h; cases h
/-- from the whole to a part -/
theorem local_part {B : List ByteArray} {L : List Ev} (hR : Right L) {xs : List Ev} (h : LinX B L xs) (b : Nat) : LinX B (restE L (b : Int)) (xs.filter (restB (b : Int))) := by
  have hops := ops_part hR (rest_byCmd (b : Int))
  unfold restE
  refine ⟨fun x hx => ?_, ?_, fun x hx => h.skip x (List.mem_filter.1 hx).1, fun y hy hmu => ?_, ?_, ?_⟩
  · rw [hops]
    exact List.mem_filter.2 ⟨h.mem x (List.mem_filter.1 hx).1, (List.mem_filter.1 hx).2⟩
  · exact h.nd.sublist List.filter_sublist
  · rw [hops] at hy
    exact List.mem_filter.2 ⟨h.must y (List.mem_filter.1 hy).1 hmu, (List.mem_filter.1 hy).2⟩
  · have h2 := h.ord.sublist (List.filter_sublist (p := restB (b : Int)))
    refine h2.imp_of_mem fun {t s} ht hs hts => ?_
    rw [before_part hR (rest_byCmd (b : Int)) (h.mem s (List.mem_filter.1 hs).1) (h.mem t (List.mem_filter.1 ht).1) (List.mem_filter.1 hs).2 (List.mem_filter.1 ht).2]
    exact hts
  · exact run_rel xs rfl rfl h.run
end Go.Proofs.YtnmhnjjehglcfaaGreat.LinMath

/- Linearizations of all parts of a history make one of the whole. Plain mathematics. -/
namespace Go.Proofs.YtnmhnjjehglcfaaGreat.LinMath
open HisMath ModMath CmdMath
/-- operations stand in the order of their invocations -/
theorem ops_asc {L : List Ev} (h : Right L) : (opsE L L.length).Pairwise (fun x y => invI L x.serial < invI L y.serial) := by
  rw [ops_right h _ (Nat.le_refl _), List.take_length, List.pairwise_map]
  have h1 : L.Pairwise (fun x y => x.ret = false → y.ret = false → invI L x.serial < invI L y.serial) := by
    rw [List.pairwise_iff_getElem]
    intro i j hi hj hij hx hy
    have a := h.inv_at (List.getElem_mem hi) hx
    have b := h.inv_at (List.getElem_mem hj) hy
    have c := h.one _ i _ _ a.2 (List.getElem?_eq_getElem hi) hx hx rfl
    have d := h.one _ j _ _ b.2 (List.getElem?_eq_getElem hj) hy hy rfl
    omega
  have h2 := h1.sublist (List.filter_sublist (p := fun e => !e.ret))
  refine h2.imp_of_mem fun {x y} hx hy hxy => ?_
  have hx2 := (List.mem_filter.1 hx).2
  have hy2 := (List.mem_filter.1 hy).2
  rw [(op_cmd L x).2.2.2.1, (op_cmd L y).2.2.2.1]
  exact hxy (by simpa using hx2) (by simpa using hy2)
theorem ops_ord {L : List Ev} (h : Right L) : (opsE L L.length).Pairwise (fun t s => beforeB L s.serial t.serial = false) := by
  refine (ops_asc h).imp fun {t s} hts => ?_
  cases hb : beforeB L s.serial t.serial with
  | false => rfl
  | true =>
    exfalso
    simp only [beforeB, Bool.and_eq_true, decide_eq_true_eq] at hb
    have := (h.inv_before hb.1.1).2
    omega
/-- operations have serials of their own -/
theorem ops_one {L : List Ev} (h : Right L) {x y : Ev} (hx : x ∈ opsE L L.length) (hy : y ∈ opsE L L.length) (hs : x.serial = y.serial) : x = y := by
  obtain ⟨i, hi⟩ := List.mem_iff_getElem?.1 hx
  obtain ⟨j, hj⟩ := List.mem_iff_getElem?.1 hy
  have := (right_opn h).one i j x y hi hj hs
  subst this
  rw [hi] at hj
  exact Option.some.inj hj
theorem ops_nd {L : List Ev} (h : Right L) : (opsE L L.length).Pairwise (fun x y => x.serial ≠ y.serial) := by
  refine (ops_asc h).imp fun {t s} hts hq => ?_
  rw [hq] at hts
  omega
/-- every return of a right history fits -/
theorem right_rets {L : List Ev} (h : Right L) : ∀ x ∈ L, x.ret = true → fitsB x.kind x.err x.res.size = true := by
  induction h with
  | nil => intro x hx; cases hx
  | inv _ hi ih =>
    intro x hx hr
    rcases List.mem_append.1 hx with hx | hx
    · exact ih x hx hr
    · obtain rfl := List.mem_singleton.1 hx
      rw [hi.ret] at hr; cases hr
  | ret _ hi ih =>
    intro x hx hr
    rcases List.mem_append.1 hx with hx | hx
    · exact ih x hx hr
    · obtain rfl := List.mem_singleton.1 hx
      exact hi.fits
/-- an operation that was answered OK, but no read, was answered without data -/
theorem op_fits {L : List Ev} (h : Right L) {x : Ev} (hx : x ∈ opsE L L.length) (hr : x.ret = true) : fitsB x.kind x.err x.res.size = true := by
  rw [ops_right h _ (Nat.le_refl _), List.take_length] at hx
  obtain ⟨e, he, rfl⟩ := List.mem_map.1 hx
  obtain ⟨hem, hef⟩ := List.mem_filter.1 he
  have her : e.ret = false := by simpa using hef
  have hk := op_cmd L e
  unfold opOf at hr ⊢
  split at hr
  · rename_i y hy
    split at hy
    · rename_i h0
      obtain ⟨i, z, hi, hz, hpz, _⟩ := seek_is h0
      obtain ⟨hzr, hzs⟩ := ret_is hpz
      have hi2 : retI L e.serial = (i : Int) := hi
      rw [hi2, Int.toNat_natCast, hz] at hy
      obtain rfl := Option.some.inj hy
      have hc := ret_cmd h (List.mem_of_getElem? hz) hem hzr her hzs
      have := right_rets h z (List.mem_of_getElem? hz) hzr
      rw [hc.1] at this
      exact this
    · cases hy
  · rw [her] at hr; cases hr
theorem empty_of {s : ByteArray} (h : s.size = 0) : s = ⟨#[]⟩ := by
  obtain ⟨a⟩ := s
  have : a = #[] := Array.size_eq_zero_iff.1 h
  rw [this]
/-- a flush fits any blocks -/
theorem fit_flush {L : List Ev} (h : Right L) {x : Ev} (hx : x ∈ opsE L L.length) (hmu : mustP x = true) (hk : x.kind = 4) {B : List ByteArray} (he : errM B (cmdOf x) = 0) : fitR B x := by
  intro hr
  unfold mustP at hmu
  rw [Bool.and_eq_true, decide_eq_true_eq] at hmu
  have h1 := op_fits h hx hr
  unfold fitsB at h1
  rw [if_pos hmu.2, if_neg (by omega)] at h1
  have h2 := empty_of (of_decide_eq_true h1)
  unfold applyR
  rw [if_neg (by omega), if_neg (by show ¬ x.kind = 1; omega)]
  exact ⟨hmu.2.symm, h2.symm⟩
/-- one run of all the blocks from runs of each -/
theorem run_all {n : Nat} (F : Ev → Prop) (hF : ∀ x, F x → x.kind = 4 ∧ ∀ B : List ByteArray, B.length = n → fitR B x) (c : Ev → Nat) : ∀ (o : List Ev) (B : List ByteArray) (C : Nat → List ByteArray), B.length = n →
    (∀ b, b < n → (C b).length = n ∧ (C b)[b]? = B[b]? ∧ (runW (C b) (o.filter (fun x => decide (c x = b)))).isSome = true) →
    (∀ x ∈ o, c x < n ∧ x.block = (c x : Int) ∧ x.kind ≠ 4 ∨ c x = n ∧ F x) → (runW B o).isSome = true
  | [], _, _, _, _, _ => rfl
  | x :: o, B, C, hl, hC, hc => by
    have hrest := fun y hy => hc y (List.mem_cons_of_mem _ hy)
    rcases hc x (by simp) with ⟨h1, h2, h3⟩ | ⟨h1, h2⟩
    · obtain ⟨q1, q2, q3⟩ := hC (c x) h1
      rw [List.filter_cons_of_pos (by simp), runW] at q3
      have hs := apply_same (B := C (c x)) (C := B) (by omega) (x := cmdOf x) h3 (fun i hi => by
        have : i = c x := by have : x.block = (i : Int) := hi; omega
        subst this; exact q2)
      by_cases hf : fitR (C (c x)) x
      · rw [if_pos hf] at q3
        have hf2 : fitR B x := fun h9 => by
          have := hf h9
          rw [hs.1, hs.2.1] at this
          exact this
        rw [runW, if_pos hf2]
        refine run_all F hF c o _ (fun b => if b = c x then applyB (C b) (cmdOf x) else C b) (by rw [apply_len, hl]) (fun b hb => ?_) hrest
        by_cases hbc : b = c x
        · subst hbc
          simp only [if_true]
          exact ⟨by rw [apply_len, q1], hs.2.2 (c x) h2, q3⟩
        · simp only [if_neg hbc]
          obtain ⟨r1, r2, r3⟩ := hC b hb
          rw [List.filter_cons_of_neg (by simp only [decide_eq_true_eq]; exact fun h => hbc h.symm)] at r3
          refine ⟨r1, ?_, r3⟩
          rw [apply_other (x := cmdOf x) (.inl (by show x.block ≠ (b : Int); omega)), r2]
      · rw [if_neg hf] at q3; cases q3
    · obtain ⟨k4, hfit⟩ := hF x h2
      rw [runW, if_pos (hfit B hl)]
      refine run_all F hF c o _ C (by rw [apply_len, hl]) (fun b hb => ?_) hrest
      obtain ⟨r1, r2, r3⟩ := hC b hb
      rw [List.filter_cons_of_neg (by simp; omega)] at r3
      refine ⟨r1, ?_, r3⟩
      rw [apply_other (x := cmdOf x) (.inr k4), r2]
/-- the parts make the whole -/
theorem local_whole {B : List ByteArray} {L : List Ev} (hR : Right L) (hz : ∀ y ∈ opsE L L.length, mustP y = true → errM B (cmdOf y) = 0) (hp : ∀ b : Nat, b < B.length → ∃ xs, LinX B (restE L (b : Int)) xs) : ∃ xs, LinX B L xs := by
  classical
  have hsub : ∀ b : Nat, opsE (restE L (b : Int)) (restE L (b : Int)).length = (opsE L L.length).filter (restB (b : Int)) := fun b => by
    unfold restE; exact ops_part hR (rest_byCmd (b : Int))
  let fl : Ev → Bool := fun x => mustP x && decide (x.kind = 4)
  let ys : Nat → List Ev := fun b => if h : b < B.length then (hp b h).choose else (opsE L L.length).filter fl
  have hys : ∀ b, b < B.length → LinX B (restE L (b : Int)) (ys b) := fun b hb => by
    simp only [ys, dif_pos hb]; exact (hp b hb).choose_spec
  have hfl : ys B.length = (opsE L L.length).filter fl := by simp only [ys, dif_neg (Nat.lt_irrefl _)]
  let c : Ev → Nat := fun x => if x.kind = 4 then B.length else x.block.toNat
  have hin : ∀ b, b < B.length → ∀ x ∈ ys b, x ∈ opsE L L.length ∧ restB (b : Int) x = true := fun b hb x hx => by
    have := (hys b hb).mem x hx
    rw [hsub] at this
    exact List.mem_filter.1 this
  have hcl : ∀ b, b < B.length + 1 → ∀ x ∈ ys b, c x = b := fun b hb x hx => by
    by_cases h1 : b < B.length
    · obtain ⟨k1, k2⟩ := rest_kind (hin b h1 x hx).2
      simp only [c, if_neg (show ¬ x.kind = 4 by omega)]
      omega
    · obtain rfl : b = B.length := by omega
      rw [hfl] at hx
      have := (List.mem_filter.1 hx).2
      simp only [fl, Bool.and_eq_true, decide_eq_true_eq] at this
      simp only [c, if_pos this.2]
  have hop : ∀ b, b < B.length + 1 → ∀ x ∈ ys b, x ∈ opsE L L.length := fun b hb x hx => by
    by_cases h1 : b < B.length
    · exact (hin b h1 x hx).1
    · obtain rfl : b = B.length := by omega
      rw [hfl] at hx
      exact (List.mem_filter.1 hx).1
  have hord : ∀ b, b < B.length + 1 → (ys b).Pairwise (fun t s => ¬ beforeB L s.serial t.serial = true) := fun b hb => by
    by_cases h1 : b < B.length
    · refine ((hys b h1).ord).imp_of_mem fun {t s} ht hs hts => ?_
      obtain ⟨a1, a2⟩ := hin b h1 t ht
      obtain ⟨b1, b2⟩ := hin b h1 s hs
      unfold restE at hts
      rw [before_part hR (rest_byCmd (b : Int)) b1 a1 b2 a2] at hts
      rw [hts]; decide
    · obtain rfl : b = B.length := by omega
      rw [hfl]
      refine ((ops_ord hR).sublist List.filter_sublist).imp fun {t s} hts => ?_
      rw [hts]; decide
  obtain ⟨o, h1, h2, h3⟩ := merge_any (fun x : Ev => invI L x.serial) (fun s t => beforeB L s.serial t.serial = true) (fun z h h' hz1 hz2 => by
      simp only [beforeB, Bool.and_eq_true, decide_eq_true_eq] at hz1 hz2
      show invI L h'.serial < invI L h.serial
      rcases Int.lt_or_le (invI L h'.serial) 0 with h9 | h9
      · omega
      · have : ¬ retI L z.serial < invI L h'.serial := fun h8 => hz2 ⟨⟨hz1.1.1, h9⟩, h8⟩
        omega) (fun z => by rw [before_irr hR]; decide) c (B.length + 1) _ ys rfl hcl hord
  have hback : ∀ x ∈ o, x ∈ ys (c x) := fun x hx => by
    rw [← h1 (c x) (h2 x hx)]
    exact List.mem_filter.2 ⟨hx, by simp⟩
  have hmem : ∀ x ∈ o, x ∈ opsE L L.length := fun x hx => hop _ (h2 x hx) x (hback x hx)
  refine ⟨o, hmem, ?_, fun x hx => ?_, fun y hy hmu => ?_, h3.imp fun {t s} hts => by simpa using hts, ?_⟩
  · rw [List.pairwise_iff_forall_sublist]
    intro a b hab hs
    have ha : a ∈ o := hab.subset (by simp)
    have hb : b ∈ o := hab.subset (by simp)
    obtain rfl := ops_one hR (hmem a ha) (hmem b hb) hs
    have h9 := hab.filter (fun x => decide (c x = c a))
    rw [h1 (c a) (h2 a ha)] at h9
    simp only [decide_true, List.filter_cons_of_pos, List.filter_nil] at h9
    have hnd : (ys (c a)).Pairwise (fun x y => x.serial ≠ y.serial) := by
      by_cases hb : c a < B.length
      · exact (hys _ hb).nd
      · have : c a = B.length := by have := h2 a ha; omega
        rw [this, hfl]
        exact (ops_nd hR).sublist List.filter_sublist
    exact List.pairwise_iff_forall_sublist.1 hnd h9 rfl
  · have hx2 := hback x hx
    by_cases hb : c x < B.length
    · exact (hys _ hb).skip x hx2
    · have : c x = B.length := by have := h2 x hx; omega
      rw [this, hfl] at hx2
      have := (List.mem_filter.1 hx2).2
      simp only [fl, mustP, Bool.and_eq_true, decide_eq_true_eq] at this
      simp [skipP, this.1.2]
  · have he := check_zero (hz y hy hmu)
    have h9 : y ∈ ys (c y) ∧ c y < B.length + 1 := by
      by_cases hk : y.kind = 4
      · have hcy : c y = B.length := by simp only [c, if_pos hk]
        rw [hcy, hfl]
        exact ⟨List.mem_filter.2 ⟨hy, by simp [fl, hmu, hk]⟩, Nat.lt_succ_self _⟩
      · have hbl : 0 ≤ y.block ∧ y.block < (B.length : Int) := he.2.2 hk
        have hcy : c y = y.block.toNat := by simp only [c, if_neg hk]
        have hlt : c y < B.length := by omega
        refine ⟨(hys _ hlt).must y ?_ hmu, by omega⟩
        rw [hsub]
        refine List.mem_filter.2 ⟨hy, ?_⟩
        have hk2 : 1 ≤ y.kind ∧ y.kind ≤ 4 := he.1
        have hb2 : y.block = ((c y : Nat) : Int) := by omega
        have hk3 : y.kind = 1 ∨ y.kind = 2 ∨ y.kind = 3 := by omega
        simp only [restB, Bool.and_eq_true, Bool.or_eq_true, decide_eq_true_eq]
        exact ⟨hb2, by rcases hk3 with h | h | h <;> simp [h]⟩
    rw [← h1 (c y) h9.2] at h9
    exact (List.mem_filter.1 h9.1).1
  · refine run_all (n := B.length) (fun x => x.kind = 4 ∧ ∀ C : List ByteArray, C.length = B.length → fitR C x) (fun x h => h) c o B (fun _ => B) rfl (fun b hb => ⟨rfl, rfl, ?_⟩) (fun x hx => ?_)
    · rw [h1 b (by omega)]
      exact (hys b hb).run
    · have hx2 := hback x hx
      by_cases hb : c x < B.length
      · obtain ⟨k1, k2⟩ := rest_kind (hin _ hb x hx2).2
        exact .inl ⟨hb, k1, by omega⟩
      · have hcx : c x = B.length := by have := h2 x hx; omega
        rw [hcx, hfl] at hx2
        have h9 := List.mem_filter.1 hx2
        have h8 := h9.2
        simp only [fl, Bool.and_eq_true, decide_eq_true_eq] at h8
        refine .inr ⟨hcx, h8.2, fun C hC => fit_flush hR h9.1 h8.1 h8.2 ?_⟩
        have := hz x h9.1 h8.1
        unfold errM at this ⊢
        rw [hC]; exact this
end Go.Proofs.YtnmhnjjehglcfaaGreat.LinMath

/- The beginnings of a history that has a linearization have one. Plain mathematics. -/
namespace Go.Proofs.YtnmhnjjehglcfaaGreat.LinMath
open HisMath ModMath CmdMath
theorem seek_front {p : Ev → Bool} {L : List Ev} {n : Nat} (h : 0 ≤ seek p (L.take n)) : seek p L = seek p (L.take n) := by
  obtain ⟨i, y, hi, hy, hp, hb⟩ := seek_is h
  have hin : i < n := by
    have := (List.getElem?_eq_some_iff.1 hy).1
    rw [List.length_take] at this
    omega
  rw [List.getElem?_take, if_pos hin] at hy
  rw [hi]
  refine seek_at hy hp fun j z hj hz => hb j z hj ?_
  rw [List.getElem?_take, if_pos (by omega)]
  exact hz
theorem op_front {L : List Ev} {n : Nat} {e : Ev} (h : 0 ≤ retI (L.take n) e.serial) : opOf (L.take n) e = opOf L e := by
  have h1 : retI L e.serial = retI (L.take n) e.serial := seek_front h
  obtain ⟨i, y, hi, hy, _, _⟩ := seek_is h
  have hin : i < n := by
    have := (List.getElem?_eq_some_iff.1 hy).1
    rw [List.length_take] at this
    omega
  have hi2 : retI (L.take n) e.serial = (i : Int) := hi
  unfold opOf
  rw [h1, hi2, Int.toNat_natCast, List.getElem?_take, if_pos hin]
theorem before_front {L : List Ev} (h : Right L) {n : Nat} {s t : Int} (hb : beforeB (L.take n) s t = true) : beforeB L s t = true := by
  rw [before_sub (right_take h n)] at hb
  rw [before_sub h]
  obtain ⟨x, y, hs, r⟩ := hb
  exact ⟨x, y, hs.trans (List.take_sublist _ _), r⟩
/-- an operation as the beginning has it -/
def gM (M : List Ev) (x : Ev) : Ev := match M[(invI M x.serial).toNat]? with
  | some e => opOf M e
  | none => x
theorem mem_ops {L : List Ev} (h : Right L) {x : Ev} : x ∈ opsE L L.length ↔ ∃ e ∈ L, e.ret = false ∧ opOf L e = x := by
  rw [ops_right h _ (Nat.le_refl _), List.take_length]
  constructor
  · intro hx
    obtain ⟨e, he, rfl⟩ := List.mem_map.1 hx
    obtain ⟨h1, h2⟩ := List.mem_filter.1 he
    exact ⟨e, h1, by simpa using h2, rfl⟩
  · rintro ⟨e, h1, h2, rfl⟩
    exact List.mem_map.2 ⟨e, List.mem_filter.2 ⟨h1, by simp [h2]⟩, rfl⟩
theorem op_ret {L : List Ev} {e : Ev} (he : e.ret = false) : (opOf L e).ret = decide (0 ≤ retI L e.serial) := by
  by_cases h : 0 ≤ retI L e.serial
  · obtain ⟨i, y, hi, hy, _, _⟩ := seek_is h
    have hi2 : retI L e.serial = (i : Int) := hi
    unfold opOf
    rw [if_pos h, hi2, Int.toNat_natCast, hy]
    simp
  · unfold opOf
    rw [if_neg h]
    simp only [he]
    exact (decide_eq_false h).symm
theorem g_spec {L : List Ev} (hR : Right L) {n : Nat} {x : Ev} (hx : x ∈ opsE L L.length) (hi : 0 ≤ invI (L.take n) x.serial) :
    gM (L.take n) x ∈ opsE (L.take n) (L.take n).length ∧ (gM (L.take n) x).serial = x.serial ∧ cmdOf (gM (L.take n) x) = cmdOf x ∧ ((gM (L.take n) x).ret = true → gM (L.take n) x = x) := by
  have hM := right_take hR n
  obtain ⟨e, he, her, rfl⟩ := (mem_ops hR).1 hx
  have hk := op_cmd L e
  rw [hk.2.2.2.1] at hi
  have heM : (L.take n)[(invI (L.take n) e.serial).toNat]? = some e := by
    obtain ⟨i, y, h1, h2, h3, _⟩ := seek_is hi
    obtain ⟨hyr, hys⟩ := inv_is h3
    have h1' : invI (L.take n) e.serial = (i : Int) := h1
    rw [h1', Int.toNat_natCast, h2]
    have hin : i < n := by
      have := (List.getElem?_eq_some_iff.1 h2).1
      rw [List.length_take] at this
      omega
    rw [List.getElem?_take, if_pos hin] at h2
    obtain ⟨j, hj⟩ := List.mem_iff_getElem?.1 he
    have := hR.one i j y e h2 hj hyr her hys
    subst this
    rw [h2] at hj
    exact hj
  have hg : gM (L.take n) (opOf L e) = opOf (L.take n) e := by
    unfold gM
    rw [hk.2.2.2.1, heM]
  have hk2 := op_cmd (L.take n) e
  rw [hg]
  refine ⟨(mem_ops hM).2 ⟨e, List.mem_of_getElem? heM, her, rfl⟩, by rw [hk.2.2.2.1, hk2.2.2.2.1], ?_, fun hr => ?_⟩
  · unfold cmdOf
    rw [hk.1, hk.2.1, hk.2.2.1, hk2.1, hk2.2.1, hk2.2.2.1]
  · rw [op_ret her, decide_eq_true_eq] at hr
    exact op_front hr
theorem run_front : ∀ (xs ys : List Ev) (B : List ByteArray), (runW B (xs ++ ys)).isSome = true → (runW B xs).isSome = true
  | [], _, _, _ => rfl
  | x :: xs, ys, B, h => by
    rw [List.cons_append, runW] at h
    rw [runW]
    split at h
    · rename_i hf
      rw [if_pos hf]
      exact run_front xs ys _ h
    · cases h
theorem run_map (g : Ev → Ev) : ∀ (xs : List Ev) (B : List ByteArray), (∀ x ∈ xs, cmdOf (g x) = cmdOf x ∧ ((g x).ret = true → g x = x)) → (runW B xs).isSome = true → (runW B (xs.map g)).isSome = true
  | [], _, _, _ => rfl
  | x :: xs, B, hg, h => by
    rw [runW] at h
    split at h
    · rename_i hf
      obtain ⟨h1, h2⟩ := hg x (by simp)
      have hf2 : fitR B (g x) := fun hr => by
        have := h2 hr
        rw [this] at hr ⊢
        exact hf hr
      rw [List.map_cons, runW, if_pos hf2, h1]
      exact run_map g xs _ (fun y hy => hg y (List.mem_cons_of_mem _ hy)) h
    · cases h
theorem lin_front {B : List ByteArray} {L : List Ev} (hR : Right L) {xs : List Ev} (h : LinX B L xs) (n : Nat) : ∃ zs, LinX B (L.take n) zs := by
  have hM := right_take hR n
  let p : Ev → Bool := fun x => decide (0 ≤ invI (L.take n) x.serial)
  let pre := xs.takeWhile p
  have hcat : pre ++ xs.dropWhile p = xs := List.takeWhile_append_dropWhile
  have hpre : ∀ x ∈ pre, x ∈ xs ∧ 0 ≤ invI (L.take n) x.serial := fun x hx => by
    refine ⟨by rw [← hcat]; exact List.mem_append_left _ hx, ?_⟩
    have := List.all_takeWhile (p := p) (l := xs)
    rw [List.all_eq_true] at this
    exact of_decide_eq_true (this x hx)
  have hg := fun x (hx : x ∈ pre) => g_spec hR (h.mem x (hpre x hx).1) (hpre x hx).2
  have hsub : List.Sublist pre xs := List.takeWhile_sublist _
  refine ⟨pre.map (gM (L.take n)), fun z hz => ?_, ?_, fun z hz => ?_, fun y hy hmu => ?_, ?_, ?_⟩
  · obtain ⟨x, hx, rfl⟩ := List.mem_map.1 hz
    exact (hg x hx).1
  · rw [List.pairwise_map]
    refine (h.nd.sublist hsub).imp_of_mem fun {a b} ha hb hab => ?_
    rw [(hg a ha).2.1, (hg b hb).2.1]
    exact hab
  · obtain ⟨x, hx, rfl⟩ := List.mem_map.1 hz
    cases hr : (gM (L.take n) x).ret with
    | false => simp [skipP, hr]
    | true =>
      rw [(hg x hx).2.2.2 hr]
      exact h.skip x (hpre x hx).1
  · obtain ⟨e, he, her, rfl⟩ := (mem_ops hM).1 hy
    have heL : e ∈ L := List.mem_of_mem_take he
    have hr : (opOf (L.take n) e).ret = true := by
      unfold mustP at hmu
      rw [Bool.and_eq_true] at hmu
      exact hmu.1
    rw [op_ret her, decide_eq_true_eq] at hr
    have hop := op_front hr
    rw [hop] at hmu
    have hxo := (mem_ops hR).2 ⟨e, heL, her, rfl⟩
    have hxs := h.must _ hxo hmu
    have hser := (op_cmd L e).2.2.2.1
    have hinv := hM.inv_at he her
    have hinp : opOf L e ∈ pre := by
      rw [← hcat] at hxs
      rcases List.mem_append.1 hxs with h1 | h1
      · exact h1
      · exfalso
        cases hd : xs.dropWhile p with
        | nil => rw [hd] at h1; cases h1
        | cons x rest =>
          have hnp : p x = false := by
            have := List.head_dropWhile_not p (w := (by rw [hd]; exact List.cons_ne_nil _ _))
            simpa [hd] using this
          rw [hd] at h1
          rcases List.mem_cons.1 h1 with rfl | h1
          · have := of_decide_eq_false hnp
            rw [hser] at this
            omega
          · have hord := h.ord
            rw [← hcat, hd, List.pairwise_append] at hord
            have hf := (List.pairwise_cons.1 hord.2.1).1 _ h1
            have hx : x ∈ opsE L L.length := h.mem x (by rw [← hcat, hd]; simp)
            obtain ⟨e2, he2, her2, rfl⟩ := (mem_ops hR).1 hx
            have hser2 := (op_cmd L e2).2.2.2.1
            have hn2 := of_decide_eq_false hnp
            rw [hser2] at hn2
            have hi2 := hR.inv_at he2 her2
            have hret : retI L e.serial = retI (L.take n) e.serial := seek_front hr
            obtain ⟨i, y, q1, q2, _, _⟩ := seek_is hr
            have q1' : retI (L.take n) e.serial = (i : Int) := q1
            have hin : i < n := by
              have := (List.getElem?_eq_some_iff.1 q2).1
              rw [List.length_take] at this
              omega
            have hge : (n : Int) ≤ invI L e2.serial := by
              rcases Int.lt_or_le (invI L e2.serial) n with h9 | h9
              · exfalso
                have hm : e2 ∈ L.take n := List.mem_of_getElem? (i := (invI L e2.serial).toNat) (by
                  rw [List.getElem?_take, if_pos (by omega)]; exact hi2.2)
                exact hn2 (hM.inv_at hm her2).1
              · exact h9
            rw [hser, hser2] at hf
            have : beforeB L e.serial e2.serial = true := by
              simp only [beforeB, Bool.and_eq_true, decide_eq_true_eq]
              omega
            rw [this] at hf
            cases hf
    refine List.mem_map.2 ⟨opOf L e, hinp, ?_⟩
    have hs := hg _ hinp
    exact ops_one hM hs.1 hy (by rw [hs.2.1, hser, (op_cmd (L.take n) e).2.2.2.1])
  · rw [List.pairwise_map]
    refine (h.ord.sublist hsub).imp_of_mem fun {t s} ht hs hts => ?_
    rw [(hg t ht).2.1, (hg s hs).2.1]
    cases hb : beforeB (L.take n) s.serial t.serial with
    | false => rfl
    | true => rw [before_front hR hb] at hts; cases hts
  · have hrun := h.run
    rw [← hcat] at hrun
    exact run_map _ _ _ (fun x hx => (hg x hx).2.2) (run_front _ _ _ hrun)
end Go.Proofs.YtnmhnjjehglcfaaGreat.LinMath
