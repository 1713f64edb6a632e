/- Texts that belong together, part 15. -/
import Derived.Test.YtnmhnjjehglcfaaGreatPack14

/- Orders of several classes put together into one, where what is before something else stays ahead of it. Plain mathematics. -/
namespace Go.Proofs.YtnmhnjjehglcfaaGreat.LinMath
section
variable {α : Type}
end
end Go.Proofs.YtnmhnjjehglcfaaGreat.LinMath

/- Linearizations as lists of operations; a history is linearizable exactly if its parts are, and then its beginnings are. Plain mathematics. -/
namespace Go.Proofs.YtnmhnjjehglcfaaGreat.LinMath
open HisMath ModMath
/-- the result of an operation is what the blocks say -/
def fitR (B : List ByteArray) (x : Ev) : Prop := x.ret = true → (applyR B (cmdOf x)).err = x.err ∧ (applyR B (cmdOf x)).data = x.res
instance (B : List ByteArray) (x : Ev) : Decidable (fitR B x) := by unfold fitR; infer_instance
def runW : List ByteArray → List Ev → Option (List ByteArray)
  | B, [] => some B
  | B, x :: xs => if fitR B x then runW (applyB B (cmdOf x)) xs else none
theorem runW_snoc (x : Ev) : ∀ (xs : List Ev) (B : List ByteArray), runW B (xs ++ [x]) = match runW B xs with
    | some B' => if fitR B' x then some (applyB B' (cmdOf x)) else none
    | none => none
  | [], B => by simp only [List.nil_append, runW]
  | y :: ys, B => by
    rw [List.cons_append, runW, runW]
    by_cases h : fitR B y
    · rw [if_pos h, if_pos h]; exact runW_snoc x ys _
    · rw [if_neg h, if_neg h]
structure LinX (B : List ByteArray) (L : List Ev) (xs : List Ev) : Prop where
  mem : ∀ x ∈ xs, x ∈ opsE L L.length
  nd : xs.Pairwise (fun x y => x.serial ≠ y.serial)
  skip : ∀ x ∈ xs, skipP x = false
  must : ∀ y ∈ opsE L L.length, mustP y = true → y ∈ xs
  ord : xs.Pairwise (fun t s => beforeB L s.serial t.serial = false)
  run : (runW B xs).isSome = true
theorem lin_of (B : List ByteArray) {L : List Ev} (H : Opn L (opsE L L.length)) : ∀ (xs : List Ev), (∀ x ∈ xs, x ∈ opsE L L.length) → xs.Pairwise (fun x y => x.serial ≠ y.serial) → (∀ x ∈ xs, skipP x = false) → xs.Pairwise (fun t s => beforeB L s.serial t.serial = false) →
    blkAt B L (xs.map (·.serial)) xs.length = runW B xs := by
  refine snoc_ind ?_ ?_
  · intro _ _ _ _; rfl
  · intro xs x ih hm hn hs ho
    rw [List.pairwise_append] at hn ho
    have h1 := ih (fun y hy => hm y (List.mem_append_left _ hy)) hn.1 (fun y hy => hs y (List.mem_append_left _ hy)) ho.1
    rw [runW_snoc, List.map_append, List.length_append, List.length_singleton, List.map_singleton]
    have h2 : blkAt B L (xs.map (·.serial) ++ [x.serial]) xs.length = runW B xs := by rw [blk_prefix (by simp)]; exact h1
    have hx := hm x (by simp)
    obtain ⟨i, hi⟩ := List.mem_iff_getElem?.1 hx
    cases hq : runW B xs with
    | none => rw [hq] at h2; exact blk_none h2 (Nat.le_succ _)
    | some B' =>
      rw [hq] at h2
      rw [blk_next h2 (by rw [List.getElem?_append_right (by simp), List.length_map, Nat.sub_self]; rfl), op_no H.one hi]
      have htk : (xs.map (·.serial) ++ [x.serial]).take xs.length = xs.map (·.serial) := by
        rw [List.take_append_of_le_length (by simp), List.take_of_length_le (by simp)]
      simp only [htk]
      by_cases hf : fitR B' x
      · have hst : stepB L B' (xs.map (·.serial)) x = true := by
          rw [step_iff]
          refine ⟨fun hmem => ?_, hs x (by simp), fun t ht => ?_, hf⟩
          · obtain ⟨y, hy, hys⟩ := List.mem_map.1 hmem
            exact hn.2.2 y hy x (by simp) hys
          · obtain ⟨y, hy, rfl⟩ := List.mem_map.1 ht
            exact ho.2.2 y hy x (by simp)
        rw [if_pos hst, if_pos hf]
      · have hst : stepB L B' (xs.map (·.serial)) x = false := by
          cases hb : stepB L B' (xs.map (·.serial)) x with
          | false => rfl
          | true => exact absurd (step_iff.1 hb).2.2.2 hf
        rw [hst, if_neg (by decide), if_neg hf]
theorem must_iff {L : List Ev} (H : Opn L (opsE L L.length)) {xs : List Ev} (hm : ∀ x ∈ xs, x ∈ opsE L L.length) : mustB (opsE L L.length) (xs.map (·.serial)) = true ↔ ∀ y ∈ opsE L L.length, mustP y = true → y ∈ xs := by
  unfold mustB
  rw [List.all_eq_true]
  constructor
  · intro h y hy hmu
    have := h y hy
    unfold mustP at hmu
    rw [hmu] at this
    simp only [Bool.not_true, Bool.false_or, decide_eq_true_eq] at this
    obtain ⟨x, hx, hxs⟩ := List.mem_map.1 this
    obtain ⟨i, hi⟩ := List.mem_iff_getElem?.1 (hm x hx)
    obtain ⟨j, hj⟩ := List.mem_iff_getElem?.1 hy
    have := H.one i j x y hi hj hxs
    subst this
    rw [hi] at hj
    rw [← Option.some.inj hj]
    exact hx
  · intro h y hy
    cases hq : (y.ret && decide (y.err = 0))
    · rfl
    · simp only [Bool.not_true, Bool.false_or, decide_eq_true_eq]
      exact List.mem_map.2 ⟨y, h y hy hq, rfl⟩
theorem lin_iff (B : List ByteArray) {L : List Ev} (H : Opn L (opsE L L.length)) (o : List Int) : linOk B L o = true ↔ ∃ xs, o = xs.map (·.serial) ∧ LinX B L xs := by
  constructor
  · intro h
    unfold linOk at h
    rw [Bool.and_eq_true] at h
    obtain ⟨hmu, hbk⟩ := h
    have main : ∀ i, i ≤ o.length → ∃ xs : List Ev, o.take i = xs.map (·.serial) ∧ (∀ x ∈ xs, x ∈ opsE L L.length) ∧ xs.Pairwise (fun x y => x.serial ≠ y.serial) ∧ (∀ x ∈ xs, skipP x = false) ∧ xs.Pairwise (fun t s => beforeB L s.serial t.serial = false) := by
      intro i
      induction i with
      | zero => intro _; exact ⟨[], rfl, by simp, .nil, by simp, .nil⟩
      | succ i ih =>
        intro hi
        obtain ⟨xs, h1, h2, h3, h4, h5⟩ := ih (by omega)
        have hs : o[i]? = some o[i] := List.getElem?_eq_getElem (by omega)
        have hall : ∀ j, j ≤ o.length → ∃ Bj, blkAt B L o j = some Bj := fun j hj => by
          cases hq : blkAt B L o j with
          | some Bj => exact ⟨Bj, rfl⟩
          | none => rw [blk_none hq hj] at hbk; cases hbk
        obtain ⟨Bi, hBi⟩ := hall i (by omega)
        obtain ⟨Bj, hBj⟩ := hall (i + 1) hi
        rw [blk_next hBi hs] at hBj
        cases hx : opNo (opsE L L.length) o[i] with
        | none => rw [hx] at hBj; cases hBj
        | some x =>
          rw [hx] at hBj
          simp only at hBj
          split at hBj
          · rename_i hst
            rw [step_iff, h1] at hst
            have hxs := op_serial hx
            refine ⟨xs ++ [x], ?_, fun y hy => ?_, ?_, fun y hy => ?_, ?_⟩
            · rw [List.take_succ_eq_append_getElem (by omega), h1, List.map_append, List.map_singleton, hxs]
            · rcases List.mem_append.1 hy with h6 | h6
              · exact h2 y h6
              · rw [List.mem_singleton.1 h6]; exact List.mem_of_find?_eq_some hx
            · rw [List.pairwise_append]
              refine ⟨h3, List.pairwise_singleton _ _, fun y hy z hz => ?_⟩
              rw [List.mem_singleton.1 hz]
              intro he
              exact hst.1 (List.mem_map.2 ⟨y, hy, he⟩)
            · rcases List.mem_append.1 hy with h6 | h6
              · exact h4 y h6
              · rw [List.mem_singleton.1 h6]; exact hst.2.1
            · rw [List.pairwise_append]
              refine ⟨h5, List.pairwise_singleton _ _, fun y hy z hz => ?_⟩
              rw [List.mem_singleton.1 hz]
              exact hst.2.2.1 _ (List.mem_map.2 ⟨y, hy, rfl⟩)
          · cases hBj
    obtain ⟨xs, h1, h2, h3, h4, h5⟩ := main o.length (Nat.le_refl _)
    rw [List.take_length] at h1
    subst h1
    rw [List.length_map, lin_of B H xs h2 h3 h4 h5] at hbk
    exact ⟨xs, rfl, h2, h3, h4, (must_iff H h2).1 hmu, h5, hbk⟩
  · rintro ⟨xs, rfl, h⟩
    unfold linOk
    rw [(must_iff H h.mem).2 h.must, List.length_map, lin_of B H xs h.mem h.nd h.skip h.ord, h.run]
    rfl
end Go.Proofs.YtnmhnjjehglcfaaGreat.LinMath

/- Parts of a history for its blocks: their operations, what is before what, what a command does to one block. Plain mathematics. -/
namespace Go.Proofs.YtnmhnjjehglcfaaGreat.LinMath
open HisMath ModMath CmdMath
theorem pair_sub {α : Type} {l : List α} {x y : α} : List.Sublist [x, y] l ↔ ∃ i j : Nat, i < j ∧ l[i]? = some x ∧ l[j]? = some y := by
  constructor
  · intro h
    induction l with
    | nil => cases h
    | cons a l ih =>
      cases h with
      | cons _ h =>
        obtain ⟨i, j, h1, h2, h3⟩ := ih h
        exact ⟨i + 1, j + 1, by omega, h2, h3⟩
      | cons_cons _ h =>
        obtain ⟨j, hj⟩ := List.mem_iff_getElem?.1 (List.singleton_sublist.1 h)
        exact ⟨0, j + 1, by omega, rfl, hj⟩
  · rintro ⟨i, j, hij, hi, hj⟩
    induction l generalizing i j with
    | nil => simp at hi
    | cons a l ih =>
      cases i with
      | zero =>
        obtain rfl := Option.some.inj (show some a = some x from hi)
        obtain ⟨j, rfl⟩ : ∃ j', j = j' + 1 := ⟨j - 1, by omega⟩
        exact List.Sublist.cons_cons _ (List.singleton_sublist.2 (List.mem_of_getElem? (show l[j]? = some y from hj)))
      | succ i =>
        obtain ⟨j, rfl⟩ : ∃ j', j = j' + 1 := ⟨j - 1, by omega⟩
        exact List.Sublist.cons _ (ih i j (by omega) hi hj)
/-- what is before what, by the places of events -/
theorem before_sub {L : List Ev} (h : Right L) {s t : Int} : beforeB L s t = true ↔ ∃ x y, List.Sublist [x, y] L ∧ x.ret = true ∧ x.serial = s ∧ y.ret = false ∧ y.serial = t := by
  simp only [beforeB, Bool.and_eq_true, decide_eq_true_eq]
  constructor
  · rintro ⟨⟨h1, h2⟩, h3⟩
    obtain ⟨i, x, hi, hx, hp, _⟩ := seek_is h1
    obtain ⟨j, y, hj, hy, hq, _⟩ := seek_is h2
    obtain ⟨hxr, hxs⟩ := ret_is hp
    obtain ⟨hyr, hys⟩ := inv_is hq
    have e1 : retI L s = (i : Int) := hi
    have e2 : invI L t = (j : Int) := hj
    exact ⟨x, y, pair_sub.2 ⟨i, j, by omega, hx, hy⟩, hxr, hxs, hyr, hys⟩
  · rintro ⟨x, y, hsub, hxr, hxs, hyr, hys⟩
    obtain ⟨i, j, hij, hx, hy⟩ := pair_sub.1 hsub
    have h1 := h.inv_at (List.mem_of_getElem? hy) hyr
    rw [hys] at h1
    obtain ⟨j2, z, hj2, hz, hzp, _⟩ := seek_is h1.1
    obtain ⟨hzr, hzs⟩ := inv_is hzp
    have := h.one j2 j z y hz hy hzr hyr (by rw [hzs, hys])
    have e2 : invI L t = (j2 : Int) := hj2
    have h2 : 0 ≤ retI L s := by
      rcases Int.lt_or_le (retI L s) 0 with h9 | h9
      · exact absurd hxs (ret_neg.1 h9 x (List.mem_of_getElem? hx) hxr)
      · exact h9
    obtain ⟨i2, z2, hi2, hz2, hp2, hb2⟩ := seek_is h2
    have e1 : retI L s = (i2 : Int) := hi2
    have hle : i2 ≤ i := by
      rcases Nat.lt_or_ge i i2 with h9 | h9
      · have := hb2 i x h9 hx
        simp [retP, hxr, hxs] at this
      · exact h9
    exact ⟨⟨h2, h1.1⟩, by omega⟩
/-- the same in a part of the history -/
theorem before_part {L : List Ev} (h : Right L) {p : Ev → Bool} (hp : ∀ x y : Ev, x.kind = y.kind → x.block = y.block → p x = p y) {a b : Ev} (ha : a ∈ opsE L L.length) (hb : b ∈ opsE L L.length) (hpa : p a = true) (hpb : p b = true) : beforeB (L.filter p) a.serial b.serial = beforeB L a.serial b.serial := by
  rw [ops_right h _ (Nat.le_refl _), List.take_length] at ha hb
  obtain ⟨a0, ha0, rfl⟩ := List.mem_map.1 ha
  obtain ⟨b0, hb0, rfl⟩ := List.mem_map.1 hb
  have hcmd : ∀ e : Ev, (opOf L e).kind = e.kind ∧ (opOf L e).block = e.block := fun e => by
    unfold opOf
    split
    · exact ⟨rfl, rfl⟩
    · exact ⟨rfl, rfl⟩
  have har : a0.ret = false := by have := (List.mem_filter.1 ha0).2; cases hr : a0.ret <;> simp_all
  have hbr : b0.ret = false := by have := (List.mem_filter.1 hb0).2; cases hr : b0.ret <;> simp_all
  have hpa0 : p a0 = true := by rw [← hpa]; exact hp _ _ (hcmd a0).1.symm (hcmd a0).2.symm
  have hpb0 : p b0 = true := by rw [← hpb]; exact hp _ _ (hcmd b0).1.symm (hcmd b0).2.symm
  rw [(op_open (L := L) har).2, (op_open (L := L) hbr).2]
  have haL := (List.mem_filter.1 ha0).1
  have hbL := (List.mem_filter.1 hb0).1
  apply Bool.eq_iff_iff.2
  rw [before_sub (right_filter h hp), before_sub h]
  constructor
  · rintro ⟨x, y, hs, h1⟩
    exact ⟨x, y, hs.trans List.filter_sublist, h1⟩
  · rintro ⟨x, y, hs, hxr, hxs, hyr, hys⟩
    obtain ⟨i, j, hij, hx, hy⟩ := pair_sub.1 hs
    -- y is b0 itself; x is the return of a0
    have hyb : y = b0 := by
      obtain ⟨k, hk⟩ := List.mem_iff_getElem?.1 hbL
      have := h.one j k y b0 hy hk hyr hbr hys
      subst this
      rw [hy] at hk
      exact Option.some.inj hk
    have hxp : p x = true := by
      obtain ⟨q, z, _, hz, hzr, hzs⟩ := h.ahead i x hx hxr
      obtain ⟨k, hk⟩ := List.mem_iff_getElem?.1 haL
      have := h.one q k z a0 hz hk hzr har (by rw [hzs, hxs])
      subst this
      rw [hz] at hk
      obtain rfl := Option.some.inj hk
      have hc : x.kind = z.kind ∧ x.block = z.block := by
        have hf := right_take h (i + 1)
        rw [List.take_succ_eq_append_getElem (List.getElem?_eq_some_iff.1 hx).1, (List.getElem?_eq_some_iff.1 hx).2] at hf
        obtain ⟨hf1, hf2⟩ := right_snoc hf
        rcases hf2 with hf2 | hf2
        · rw [hf2.ret] at hxr; cases hxr
        · obtain ⟨y', hy', hr', hs', _, hk', hb', _⟩ := hf2.one
          obtain ⟨m, hm⟩ := List.mem_iff_getElem?.1 hy'
          have hml := (List.getElem?_eq_some_iff.1 hm).1
          rw [List.length_take] at hml
          rw [List.getElem?_take, if_pos (by omega)] at hm
          have := h.one m q y' z hm hz hr' hzr (by rw [hs', hzs])
          subst this
          rw [hm] at hz
          obtain rfl := Option.some.inj hz
          exact ⟨hk'.symm, hb'.symm⟩
      rw [← hpa0]
      exact hp x z hc.1 hc.2
    subst hyb
    refine ⟨x, y, ?_, hxr, hxs, hyr, hys⟩
    have := hs.filter p
    simpa [hxp, hpb0] using this
end Go.Proofs.YtnmhnjjehglcfaaGreat.LinMath

/- A history is linearizable exactly if its parts for all blocks are. Plain mathematics. -/
namespace Go.Proofs.YtnmhnjjehglcfaaGreat.LinMath
open HisMath ModMath CmdMath
/-- a choice of events by their commands -/
def byCmd (p : Ev → Bool) : Prop := ∀ x y : Ev, x.kind = y.kind → x.block = y.block → p x = p y
theorem op_cmd (L : List Ev) (e : Ev) : (opOf L e).kind = e.kind ∧ (opOf L e).block = e.block ∧ (opOf L e).data = e.data ∧ (opOf L e).serial = e.serial ∧ (opOf L e).queue = e.queue := by
  unfold opOf
  split <;> exact ⟨rfl, rfl, rfl, rfl, rfl⟩
/-- a return has the command of its invocation -/
theorem ret_cmd {L : List Ev} (h : Right L) {x y : Ev} (hx : x ∈ L) (hy : y ∈ L) (hxr : x.ret = true) (hyr : y.ret = false) (hs : x.serial = y.serial) : x.kind = y.kind ∧ x.block = y.block := by
  obtain ⟨i, hi⟩ := List.mem_iff_getElem?.1 hx
  have hf := right_take h (i + 1)
  rw [List.take_succ_eq_append_getElem (List.getElem?_eq_some_iff.1 hi).1, (List.getElem?_eq_some_iff.1 hi).2] at hf
  obtain ⟨hf1, hf2⟩ := right_snoc hf
  rcases hf2 with hf2 | hf2
  · rw [hf2.ret] at hxr; cases hxr
  · obtain ⟨y', hy', hr', hs', _, hk', hb', _⟩ := hf2.one
    obtain ⟨m, hm⟩ := List.mem_iff_getElem?.1 hy'
    have hml := (List.getElem?_eq_some_iff.1 hm).1
    rw [List.length_take] at hml
    rw [List.getElem?_take, if_pos (by omega)] at hm
    obtain ⟨j, hj⟩ := List.mem_iff_getElem?.1 hy
    have := h.one m j y' y hm hj hr' hyr (by rw [hs', hs])
    subst this
    rw [hm] at hj
    obtain rfl := Option.some.inj hj
    exact ⟨hk'.symm, hb'.symm⟩
/-- a return of a serial is the only one -/
theorem right_oneRet {L : List Ev} (h : Right L) : ∀ (i j : Nat) (x y : Ev), L[i]? = some x → L[j]? = some y → x.ret = true → y.ret = true → x.serial = y.serial → i = j := by
  have key : ∀ (i j : Nat) (x y : Ev), i < j → L[i]? = some x → L[j]? = some y → x.ret = true → y.ret = true → x.serial = y.serial → False := fun i j x y hij hx hy hxr hyr hs => by
    have hf := right_take h (j + 1)
    rw [List.take_succ_eq_append_getElem (List.getElem?_eq_some_iff.1 hy).1, (List.getElem?_eq_some_iff.1 hy).2] at hf
    obtain ⟨_, hf2⟩ := right_snoc hf
    rcases hf2 with hf2 | hf2
    · rw [hf2.ret] at hyr; cases hyr
    · exact hf2.open' x (List.mem_of_getElem? (by rw [List.getElem?_take, if_pos hij]; exact hx)) hxr hs
  intro i j x y hx hy hxr hyr hs
  rcases Nat.lt_trichotomy i j with h1 | h1 | h1
  · exact (key i j x y h1 hx hy hxr hyr hs).elim
  · exact h1
  · exact (key j i y x h1 hy hx hyr hxr hs.symm).elim
/-- the return of an operation is found in each part in which the operation is -/
theorem op_part {L : List Ev} (h : Right L) {p : Ev → Bool} (hp : byCmd p) {e : Ev} (he : e ∈ L) (hr : e.ret = false) (hpe : p e = true) : opOf (L.filter p) e = opOf L e := by
  have hR := right_filter h hp
  unfold opOf
  by_cases h1 : 0 ≤ retI L e.serial
  · obtain ⟨i, x, hi, hx, hpx, _⟩ := seek_is h1
    obtain ⟨hxr, hxs⟩ := ret_is hpx
    have hxm := List.mem_of_getElem? hx
    have hc := ret_cmd h hxm he hxr hr hxs
    have hxp : p x = true := by rw [← hpe]; exact hp x e hc.1 hc.2
    have hxf : x ∈ L.filter p := List.mem_filter.2 ⟨hxm, hxp⟩
    have h2 : 0 ≤ retI (L.filter p) e.serial := by
      rcases Int.lt_or_le (retI (L.filter p) e.serial) 0 with h9 | h9
      · exact absurd hxs (ret_neg.1 h9 x hxf hxr)
      · exact h9
    obtain ⟨j, y, hj, hy, hpy, _⟩ := seek_is h2
    obtain ⟨hyr, hys⟩ := ret_is hpy
    have hym := (List.mem_filter.1 (List.mem_of_getElem? hy)).1
    obtain ⟨k, hk⟩ := List.mem_iff_getElem?.1 hym
    have := right_oneRet h i k x y hx hk hxr hyr (by rw [hxs, hys])
    subst this
    rw [hx] at hk
    obtain rfl := Option.some.inj hk
    rw [if_pos h1, if_pos h2, show retI L e.serial = (i : Int) from hi, show retI (L.filter p) e.serial = (j : Int) from hj, Int.toNat_natCast, Int.toNat_natCast, hx, hy]
  · have h2 : ¬ 0 ≤ retI (L.filter p) e.serial := by
      intro h2
      obtain ⟨j, y, hj, hy, hpy, _⟩ := seek_is h2
      obtain ⟨hyr, hys⟩ := ret_is hpy
      have hym := (List.mem_filter.1 (List.mem_of_getElem? hy)).1
      exact absurd hys (ret_neg.1 (by omega) y hym hyr)
    rw [if_neg h1, if_neg h2]
/-- the operations of a part -/
theorem ops_part {L : List Ev} (h : Right L) {p : Ev → Bool} (hp : byCmd p) : opsE (L.filter p) (L.filter p).length = (opsE L L.length).filter p := by
  rw [ops_right (right_filter h hp) _ (Nat.le_refl _), ops_right h _ (Nat.le_refl _), List.take_length, List.take_length, List.filter_map, List.filter_filter]
  have h1 : (L.filter (fun e => !e.ret)).filter (p ∘ opOf L) = L.filter (fun e => !e.ret && p e) := by
    rw [List.filter_filter]
    apply List.filter_congr
    intro e _
    have : p (opOf L e) = p e := hp _ _ (op_cmd L e).1 (op_cmd L e).2.1
    simp [this, Bool.and_comm]
  rw [h1]
  apply List.map_congr_left
  intro e he
  have hm := List.mem_filter.1 he
  have hb : (!e.ret && p e) = true := hm.2
  rw [Bool.and_eq_true] at hb
  exact op_part h hp hm.1 (by cases hr : e.ret <;> simp_all) hb.2
theorem rest_byCmd (b : Int) : byCmd (restB b) := fun x y h1 h2 => by simp [restB, h1, h2]
theorem rest_kind {b : Int} {x : Ev} (h : restB b x = true) : x.block = b ∧ (x.kind = 1 ∨ x.kind = 2 ∨ x.kind = 3) := by
  simp only [restB, Bool.and_eq_true, Bool.or_eq_true, decide_eq_true_eq] at h
  exact ⟨h.1, by omega⟩
end Go.Proofs.YtnmhnjjehglcfaaGreat.LinMath

/- Linearizations of all parts of a history make one of the whole. Plain mathematics. -/
namespace Go.Proofs.YtnmhnjjehglcfaaGreat.LinMath
open HisMath ModMath CmdMath
/-- operations stand in the order of their invocations -/
theorem ops_asc {L : List Ev} (h : Right L) : (opsE L L.length).Pairwise (fun x y => invI L x.serial < invI L y.serial) := by
  rw [ops_right h _ (Nat.le_refl _), List.take_length, List.pairwise_map]
  have h1 : L.Pairwise (fun x y => x.ret = false → y.ret = false → invI L x.serial < invI L y.serial) := by
    rw [List.pairwise_iff_getElem]
    intro i j hi hj hij hx hy
    have a := h.inv_at (List.getElem_mem hi) hx
    have b := h.inv_at (List.getElem_mem hj) hy
    have c := h.one _ i _ _ a.2 (List.getElem?_eq_getElem hi) hx hx rfl
    have d := h.one _ j _ _ b.2 (List.getElem?_eq_getElem hj) hy hy rfl
    omega
  have h2 := h1.sublist (List.filter_sublist (p := fun e => !e.ret))
  refine h2.imp_of_mem fun {x y} hx hy hxy => ?_
  have hx2 := (List.mem_filter.1 hx).2
  have hy2 := (List.mem_filter.1 hy).2
  rw [(op_cmd L x).2.2.2.1, (op_cmd L y).2.2.2.1]
  exact hxy (by simpa using hx2) (by simpa using hy2)
/-- operations have serials of their own -/
theorem ops_one {L : List Ev} (h : Right L) {x y : Ev} (hx : x ∈ opsE L L.length) (hy : y ∈ opsE L L.length) (hs : x.serial = y.serial) : x = y := by
  obtain ⟨i, hi⟩ := List.mem_iff_getElem?.1 hx
  obtain ⟨j, hj⟩ := List.mem_iff_getElem?.1 hy
  have := (right_opn h).one i j x y hi hj hs
  subst this
  rw [hi] at hj
  exact Option.some.inj hj
end Go.Proofs.YtnmhnjjehglcfaaGreat.LinMath
